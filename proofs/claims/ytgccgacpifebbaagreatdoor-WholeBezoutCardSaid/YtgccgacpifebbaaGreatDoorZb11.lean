/- TwoN BArg MulAdd -/
import Derived.Test.YtgccgacpifebbaaGreatDoorZb09
import Derived.Test.YtgccgacpifebbaaGreatDoorZb10
import Derived.Test.YtgccgacpifebbaaGreatDoorZb01
import Derived.WideKeyArgs
import Derived.SizedLaws
import Derived.Test.YtgccgacpifebbaaGreatDoorZb05
import Derived.Test.YtgccgacpifebbaaGreatDoorZb02
namespace Go.Proofs.YtgccgacpifebbaaGreatDoor
open Go.RowKit
set_option linter.unusedVariables false
/-- A slice of bytes that came in. -/
def BArg (w : World) (v : Value) : Prop := v = .slice none 0 0 ∨ (∃ a cap,v = .slice (some a) 0 cap ∧ cap ≤ 9223372036854775807) ∨
  ∃ b off len cap zs,v = .slice (some ⟨b,off,none⟩) len cap ∧ 0 < len ∧ len ≤ cap ∧ len ≤ zs.length ∧ len ≤ 9223372036854775807 ∧ cap ≤ 9223372036854775807 ∧ Bytes8 zs ∧ ∀ j,j < zs.length → w.cell? ⟨b,off + j,none⟩ = some (.int .u8 (zs.getD j 0))
theorem BArg.below {w w' : World} {v : Value} (h : BArg w v) (hb : Below w.heap.size w w') : BArg w' v := by
  rcases h with h | h | ⟨b,off,len,cap,zs,hv,h1,h2,h3,h4,h5,h6,hc⟩
  · exact .inl h
  · exact .inr (.inl h)
  · refine .inr (.inr ⟨b,off,len,cap,zs,hv,h1,h2,h3,h4,h5,h6,fun j hj => ?_⟩)
    rw [hb.cell (p := ⟨b,off + j,none⟩) (World.block_lt_of_cell? w ⟨b,off + j,none⟩ (hc j hj))]
    exact hc j hj
/-- The document's number n. -/
def IsRef (w : World) (s : Value) (n : Int) : Prop := ∃ b t len cap l,s = .slice (some ⟨b,0,none⟩) len cap ∧ Arr w b t .u32 l ∧ len ≤ l.length ∧ len ≤ 12 ∧ l.length ≤ 12 ∧ Limbs l ∧ (len ≠ 0 → l.getD (len - 1) 0 ≠ 0) ∧ lval (l.take len) = n
theorem IsRef.below {w w' : World} {s : Value} {n : Int} (h : IsRef w s n) (hb : Below w.heap.size w w') : IsRef w' s n := by
  obtain ⟨b,t,len,cap,l,hv,ha,r⟩ := h
  exact ⟨b,t,len,cap,l,hv,ha.below hb ha.lt,r⟩
theorem IsRef.bd {w : World} {s : Value} {n : Int} (h : IsRef w s n) : 0 ≤ n ∧ n < 2 ^ 384 := by
  obtain ⟨b,t,len,cap,l,hv,ha,h1,h2,h3,hw,hz,rfl⟩ := h
  have hb := lval_bd (hw.take len)
  rw [List.length_take,Nat.min_eq_left h1] at hb
  have hm := lpw_mono h2
  rw [lpw_two 12] at hm
  exact ⟨hb.1,by omega⟩
theorem IsRef.two {w : World} {s : Value} {n : Int} {c : Nat} {x y : Value} (h : IsRef w s n) (hc : Var w c x y) (x' y' : Value) : IsRef ((w.setCell ⟨c,0,none⟩ x').setCell ⟨c,1,none⟩ y') s n := by
  obtain ⟨b,t,len,cap,l,hv,ha,r⟩ := h
  exact ⟨b,t,len,cap,l,hv,(ha.other (ha.neVar hc) _).other (ha.neVar hc) _,r⟩
end Go.Proofs.YtgccgacpifebbaaGreatDoor
namespace Go.Proofs.YtgccgacpifebbaaGreatDoor
open Go.ChangeShapes Go.WideShapes Go.ChangeAt Go.RowKit
set_option linter.unusedVariables false
theorem cells8 : Tryz.prog.cellsOf 5 = 1 := by kernel_rfl
section
variable {H : Type} {enc : TypeId × Value → H}
set_option maxRecDepth 100000 in
theorem bytes_arg {W : World} {base : Nat} {v : Value} {d : DataW H} {ps : List MemPlace} (hval : Value.okWide Tryz.prog W .any base 22 v) (h1 : DataW.Trod enc Tryz.prog W 0 (fun _ => true) true 22 v d ps) :
    BArg W v ∧ ∀ x ∈ ps, ∃ xb xo, x = .cell xb xo := by
  obtain ⟨a1, len, cap, rfl⟩ := okWide_slice Tryz.underlying22 hval
  obtain ⟨fuel, hf⟩ := h1
  rcases open_ints Tryz.underlying22 Tryz.underlying5 cells8 hf with ⟨hcs, hx⟩ | ⟨a, len', cap', zs, hcs, _, hl, hm, hz, hx, hcell, hwz⟩
  · simp [Value.cells] at hcs
    obtain ⟨rfl, rfl, rfl⟩ := hcs
    simp only [Prod.mk.injEq] at hx
    obtain ⟨rfl, rfl⟩ := hx
    exact ⟨.inl rfl, fun _ h => by cases h⟩
  · simp [Value.cells] at hcs
    obtain ⟨rfl, rfl, rfl⟩ := hcs
    simp only [Prod.mk.injEq] at hx
    obtain ⟨rfl, rfl⟩ := hx
    simp only [if_true] at hz
    have hmax : cap ≤ 9223372036854775807 := by simp only [maxLen] at hm; omega
    refine ⟨?_, fun x hx => ?_⟩
    · by_cases h0 : len = 0
      · subst h0
        exact .inr (.inl ⟨a, cap, rfl, hmax⟩)
      · obtain ⟨ab, ao, spot⟩ := a
        have hspot : spot = none := by simpa [Addr.add] using World.cell?_spot (hcell 0 (by omega))
        subst hspot
        refine .inr (.inr ⟨ab, ao, len, cap, zs, rfl, by omega, hl, by omega, by omega, hmax, ?_, fun j hj => ?_⟩)
        · intro x hx
          obtain ⟨i, hi, rfl⟩ := List.getElem_of_mem hx
          have := range_u8 hwz i
          rw [List.getElem?_eq_getElem hi] at this
          simp at this
          omega
        · have := hcell j hj
          rwa [Addr.add_lit] at this
    · simp only [MemPlace.row, List.mem_map] at hx
      obtain ⟨i, _, rfl⟩ := hx
      exact ⟨_, _, rfl⟩
set_option maxRecDepth 100000 in
theorem bytes_shut {W W' : World} {v : Value} {d : DataW H} {ps : List MemPlace} (h1 : DataW.Trod enc Tryz.prog W 0 (fun _ => true) true 22 v d ps) (hp : ∀ x ∈ ps, ∃ xb xo, x = .cell xb xo) (hlt : ∀ x ∈ ps, x.block < W.heap.size) (bel : Below W.heap.size W W') :
    DataW.Trod enc Tryz.prog W' 0 (fun x => decide (x < W.heap.size)) true 22 v d ps :=
  WideElems.Trod_stays (P := Tryz.prog) laidOut (by kernel_rfl) (of_decide_eq_true (by kernel_rfl)) h1
    (fun x hx => by
      obtain ⟨xb, xo, rfl⟩ := hp x hx
      exact bel.cell (p := ⟨xb, xo, none⟩) (hlt _ hx))
    (fun x hx => by simpa using hlt x hx)
end
end Go.Proofs.YtgccgacpifebbaaGreatDoor
namespace Go.Proofs.YtgccgacpifebbaaGreatDoor
open Go.RowKit
set_option linter.unusedVariables false
def mulLo (x y e : Int) : Int := (x * y + e) % 18446744073709551616
def mulHi (x y e : Int) : Int := (x * y + e) / 18446744073709551616
theorem mul_eq (x y e : Int) : mulLo x y e + 18446744073709551616 * mulHi x y e = x * y + e := by unfold mulLo mulHi; omega
theorem mulLo_word (x y e : Int) : Word (mulLo x y e) := by unfold mulLo Word; omega
theorem mul_bd {x y : Int} (hx : Word x) (hy : Word y) : 0 ≤ x * y ∧ x * y ≤ 18446744073709551615 * 18446744073709551615 := by
  unfold Word at hx hy
  exact ⟨Int.mul_nonneg hx.1 hy.1,Int.mul_le_mul (by omega) (by omega) hy.1 (by decide)⟩
theorem mulHi_word {x y e : Int} (hx : Word x) (hy : Word y) (he : Word e) : Word (mulHi x y e) := by
  have := mul_bd hx hy
  unfold mulHi
  generalize x * y = p at *
  unfold Word at he ⊢
  omega
theorem mul64_any (x y : Int) (hx : Word x) (hy : Word y) (w : World) :
    Calls Tryz.prog 78 #[.int .u64 x,.int .u64 y] w fun e w' => e = .returned (.tuple #[.int .u64 (mulHi x y 0),.int .u64 (mulLo x y 0)]) ∧ w = w' := by
  obtain ⟨X,rfl⟩ := Int.eq_ofNat_of_zero_le hx.1
  obtain ⟨Y,rfl⟩ := Int.eq_ofNat_of_zero_le hy.1
  refine (Tryz.bits_Mul64 X Y (by have := hx.2; omega) (by have := hy.2; omega) w).mono ?_
  rintro e w' ⟨rfl,rfl⟩
  refine ⟨?_,rfl⟩
  unfold mulHi mulLo
  congr 5 <;> simp
theorem mulAdd_any (x y z : Int) (hx : Word x) (hy : Word y) (hz : Word z) (w : World) :
    Calls Tryz.prog 128 #[.int .u64 x,.int .u64 y,.int .u64 z] w fun e w' => e = .returned (.tuple #[.int .u64 (mulHi x y z),.int .u64 (mulLo x y z)]) ∧ w = w' := by
  have ml := mulLo_word x y 0
  have mh := mulHi_word hx hy (e := 0) ⟨by decide,by decide⟩
  have m64 := mul64_any x y hx hy
  have he := mul_eq x y 0
  have h1 : mulLo x y z = addLo (mulLo x y 0) z 0 := by
    unfold addLo mulLo; omega
  have h2 : mulHi x y z = IntKind.u64.wrap (mulHi x y 0 + addHi (mulLo x y 0) z 0) := by
    have hw := mulHi_word hx hy hz
    have he2 := mul_eq x y z
    have he3 := add_eq (mulLo x y 0) z 0
    rw [← h1] at he3
    have : mulHi x y z = mulHi x y 0 + addHi (mulLo x y 0) z 0 := by omega
    rw [← this,IntKind.wrap_u64]
    unfold Word at hw
    omega
  rw [h1,h2]
  have hs := add64' _ z 0 ml hz (.inl rfl)
  generalize addLo (mulLo x y 0) z 0 = a at *
  generalize addHi (mulLo x y 0) z 0 = b at *
  generalize mulLo x y 0 = lo at *
  generalize mulHi x y 0 = hi at *
  clear h1 h2 he ml mh
  have M := Lib.hid m64
  clear m64
  go_enter Tryz.func128,Tryz.ntmps128
  go_wp2_with fail
  refine (M.out _).mono ?_
  rintro e w' ⟨rfl,rfl⟩
  go_wp2_with fail
  go_ret2
  exact ⟨rfl,rfl⟩
end Go.Proofs.YtgccgacpifebbaaGreatDoor
namespace Go.Proofs.YtgccgacpifebbaaGreatDoor
open Go.RowKit
set_option linter.unusedVariables false
theorem addHi0 {r lo : Int} : addLo r lo 0 + 18446744073709551616 * addHi r lo 0 = r + lo := by have := add_eq r lo 0; omega
/-- Behind k words of the other factor: X times these,and noughts above. -/
def OutAt (lz l2 : List Int) (n1 n2 k : Nat) (X : Int) : Prop := lz.length = n1 + n2 ∧ Words lz ∧ (∀ j,n1 + k ≤ j → lz.getD j 0 = 0) ∧ seg lz 0 (n1 + k) = X * seg l2 0 k
/-- Within: behind i words of this factor,the carry c. -/
def InAt (lz lk l1 : List Int) (k i : Nat) (d c : Int) : Prop := lk.length = lz.length ∧ Words lk ∧ Word c ∧ (∀ j,k + i ≤ j → lk.getD j 0 = lz.getD j 0) ∧ seg lk 0 (k + i) + c * pw (k + i) = seg lz 0 (k + i) + pw k * (d * seg l1 0 i)
theorem lin_mul {P Pk Pi B s t a c' r x d c u : Int} (hP : P = Pk * Pi) (he : a + B * c' = r + x * d + c) (hv : s + c * P = t + Pk * (d * u)) :
    s + P * a + c' * (B * P) = t + P * r + Pk * (d * (u + Pi * x)) := by
  have h2 : P * a + P * (B * c') = P * r + P * (x * d) + P * c := by rw [← Int.mul_add,he,Int.mul_add,Int.mul_add]
  have h3 : c' * (B * P) = P * (B * c') := by rw [← Int.mul_assoc,Int.mul_comm (c' * B) P,Int.mul_comm c' B]
  have h4 : c * P = P * c := Int.mul_comm _ _
  have h5 : Pk * (d * (u + Pi * x)) = Pk * (d * u) + P * (x * d) := by
    rw [Int.mul_add,Int.mul_add,hP,Int.mul_assoc]
    congr 2
    rw [← Int.mul_assoc,Int.mul_comm d Pi,Int.mul_assoc,Int.mul_comm d x]
  rw [h3,h5]; omega
theorem InAt.step {lz lk l1 : List Int} {k i : Nat} {d c : Int} (h : InAt lz lk l1 k i d c) (hi : k + i < lz.length) (hi1 : i < l1.length) (hz : Words lz) (hw1 : Words l1) (hd : Word d) :
    IntKind.u64.wrap (addHi (lz.getD (k + i) 0) (mulLo (l1.getD i 0) d c) 0 + mulHi (l1.getD i 0) d c) = addHi (lz.getD (k + i) 0) (mulLo (l1.getD i 0) d c) 0 + mulHi (l1.getD i 0) d c ∧
    InAt lz (lk.set (k + i) (addLo (lz.getD (k + i) 0) (mulLo (l1.getD i 0) d c) 0)) l1 k (i + 1) d (addHi (lz.getD (k + i) 0) (mulLo (l1.getD i 0) d c) 0 + mulHi (l1.getD i 0) d c) := by
  obtain ⟨hlen,hw,hc,hrest,hval⟩ := h
  have wx := hw1.getD i
  have wr := hz.getD (k + i)
  have e2 : seg l1 0 (i + 1) = seg l1 0 i + pw i * l1.getD i 0 := by have := seg_succ (l := l1) (o := 0) (k := i) (by omega); rwa [Nat.zero_add] at this
  have e3 : seg lz 0 (k + i + 1) = seg lz 0 (k + i) + pw (k + i) * lz.getD (k + i) 0 := by have := seg_succ (l := lz) (o := 0) (k := k + i) (by omega); rwa [Nat.zero_add] at this
  generalize hx : l1.getD i 0 = x at *
  generalize hr : lz.getD (k + i) 0 = r at *
  have m1 := mul_eq x d c
  have a1 := addHi0 (r := r) (lo := mulLo x d c)
  have hb := mul_bd wx hd
  have al := addLo_word r (mulLo x d c) 0
  have hn := mulHi_word wx hd hc
  have hb0 := addHi_bit wr (mulLo_word x d c) (c := 0) (.inl rfl)
  have he : addLo r (mulLo x d c) 0 + 18446744073709551616 * (addHi r (mulLo x d c) 0 + mulHi x d c) = r + x * d + c := by omega
  have hc' : Word (addHi r (mulLo x d c) 0 + mulHi x d c) := by
    generalize x * d = p at *
    unfold Word at *
    omega
  refine ⟨?_,by simp [hlen],hw.set _ al,hc',?_,?_⟩
  · unfold Word at hc'
    rw [IntKind.wrap_u64]; omega
  · intro j hj
    rw [getD_set _ _ _ _ (by omega),if_neg (by omega)]
    exact hrest j (by omega)
  · have e1 : seg (lk.set (k + i) (addLo r (mulLo x d c) 0)) 0 (k + i + 1) = seg lk 0 (k + i) + pw (k + i) * addLo r (mulLo x d c) 0 := by
      rw [seg_succ (by simp; omega),getD_set _ _ _ _ (by omega),if_pos (by omega),
        seg_congr (l := lk.set (k + i) _) (l' := lk) (by simp; omega) (by omega) (fun j h1 h2 => by rw [getD_set _ _ _ _ (by omega),if_neg (by omega)])]
    rw [← Nat.add_assoc,e1,e2,e3]
    simp only [pw]
    exact lin_mul (pw_add k i) he hval
theorem OutAt.step {lz lk l1 l2 : List Int} {n1 n2 k : Nat} {X c : Int} (h : OutAt lz l2 n1 n2 k X) (hX : X = seg l1 0 n1) (hk : k < n2) (hl2 : k < l2.length) (hin : InAt lz lk l1 k n1 (l2.getD k 0) c) :
    OutAt (lk.set (k + n1) c) l2 n1 n2 (k + 1) X := by
  obtain ⟨hlen,hw,hzero,hval⟩ := h
  obtain ⟨glen,gw,gc,grest,gval⟩ := hin
  refine ⟨by simp [glen,hlen],gw.set _ gc,?_,?_⟩
  · intro j hj
    rw [getD_set _ _ _ _ (by omega),if_neg (by omega),grest j (by omega)]
    exact hzero j (by omega)
  · have e : n1 + (k + 1) = (k + n1) + 1 := by omega
    rw [e,seg_succ (by simp; omega),getD_set _ _ _ _ (by omega),if_pos (by omega),
      seg_congr (l := lk.set (k + n1) c) (l' := lk) (by simp; omega) (by omega) (fun j h1 h2 => by rw [getD_set _ _ _ _ (by omega),if_neg (by omega)]),
      seg_succ (l := l2) (by omega),Nat.zero_add]
    rw [Nat.add_comm n1 k] at hval
    rw [hval] at gval
    subst hX
    have e5 : seg l1 0 n1 * (seg l2 0 k + pw k * l2.getD k 0) = seg l1 0 n1 * seg l2 0 k + pw k * (l2.getD k 0 * seg l1 0 n1) := by
      rw [Int.mul_add,Int.mul_left_comm,Int.mul_comm (seg l1 0 n1) (l2.getD k 0)]
    rw [e5,Int.mul_comm (pw (k + n1)) c]
    exact gval
set_option maxRecDepth 100000 in
set_option maxHeartbeats 1000000 in
theorem pbw_any (b1 t1 n1 c1 : Nat) (l1 : List Int) (b2 t2 n2 c2 : Nat) (l2 : List Int) (w : World) (ha1 : Arr w b1 t1 .u64 l1) (ha2 : Arr w b2 t2 .u64 l2) (h1 : n1 ≤ l1.length) (h2 : n2 ≤ l2.length) (hm1 : n1 ≤ 4294967296) (hm2 : n2 ≤ 4294967296) (hw1 : Words l1) (hw2 : Words l2) :
    Calls Tryz.prog 110 #[.slice (some ⟨b1,0,none⟩) n1 c1,.slice (some ⟨b2,0,none⟩) n2 c2] w fun e w' =>
      e = .returned (.slice (some ⟨w.heap.size,0,none⟩) (n1 + n2) (n1 + n2)) ∧ (∃ lz,Arr w' w.heap.size 23 .u64 lz ∧ OutAt lz l2 n1 n2 n2 (seg l1 0 n1)) ∧ Below w.heap.size w w' := by
  have hmk := make64 (n1 + n2) (n1 + n2) (by omega) (by omega)
  have k1 := ha1.lt
  have k2 := ha2.lt
  go_enter Tryz.func110,Tryz.ntmps110
  go_wp2_with fail
  go_loopw [22] (fun i wr => ∃ (k : Nat) (lz : List Int),k ≤ n2 ∧ i = .int .i64 k ∧ Arr wr w.heap.size 23 .u64 lz ∧ OutAt lz l2 n1 n2 k (seg l1 0 n1) ∧ Below w.heap.size w wr) (fun i _ => n2 - (intOf i).toNat)
  case atStart => exact ⟨0,_,Nat.zero_le _,rfl,Arr.zeros _ _ _ _ _ rfl,⟨by simp,Words.replicate _,fun j _ => by simp only [List.getD_eq_getElem?_getD,List.getElem?_replicate]; split <;> rfl,by rw [seg_zero]; have := seg_all (List.replicate (n1 + n2) (0 : Int)) (n1 + 0); rw [this,List.take_replicate,val_replicate]; simp⟩,by go_grown⟩
  case round =>
    obtain ⟨k,lz,hk,rfl,haz,hout,hB⟩ := hrel
    obtain ⟨wo,rfl⟩ : ∃ wo : World,wo = wr := ⟨_,rfl⟩
    by_cases hlt : k < n2
    · have hcy := (ha2.below hB k2).cell k (by omega)
      have wd := hw2.getD k
      have hlz := hout.1
      have wz := hout.2.1
      obtain ⟨d,hd⟩ : ∃ d,l2.getD k 0 = d := ⟨_,rfl⟩
      rw [hd] at hcy wd
      have Hd := Lib.hid hd
      have Hlz := Lib.hid hlz
      have Wz := Lib.hid wz
      have Wd := Lib.hid wd
      clear hd hlz wz wd hmk
      go_wp2_with fail
      rw [Nat.add_sub_cancel_left]
      go_loopw [8,36] (fun c i wr => ∃ (j : Nat) (cv : Int) (lk : List Int),j ≤ n1 ∧ i = .int .i64 j ∧ c = .int .u64 cv ∧ Arr wr w.heap.size 23 .u64 lk ∧ InAt lz lk l1 k j d cv ∧ Below w.heap.size w wr) (fun _ i _ => n1 - (intOf i).toNat)
      case atStart => exact ⟨0,0,lz,Nat.zero_le _,rfl,rfl,haz,⟨rfl,Wz.out,⟨by decide,by decide⟩,fun _ _ => rfl,by rw [seg_zero]; simp⟩,hB⟩
      case round =>
        obtain ⟨j,cv,lk,hj,rfl,rfl,hak,hin,hB2⟩ := hrel
        by_cases hlj : j < n1
        · have hcx := (ha1.below hB2 k1).cell j (by omega)
          have hlz2 := Hlz.out
          have hcz := hak.cell (k + j) (by rw [hin.1]; omega)
          rw [hin.2.2.2.1 (k + j) (Nat.le_refl _)] at hcz
          have hfz := hak.free (k + j)
          have wx := hw1.getD j
          have wr' := Wz.out.getD (k + j)
          have wc := hin.2.2.1
          have st := hin.step (by omega) (by omega) Wz.out hw1 Wd.out
          obtain ⟨x,hx⟩ : ∃ x,l1.getD j 0 = x := ⟨_,rfl⟩
          obtain ⟨r,hr⟩ : ∃ r,lz.getD (k + j) 0 = r := ⟨_,rfl⟩
          rw [hx] at hcx wx st
          rw [hr] at hcz wr' st
          have ma := fun w => mulAdd_any x d cv wx Wd.out wc w
          have lo := mulLo_word x d cv
          have hs := add64' r (mulLo x d cv) 0 wr' lo (.inl rfl)
          generalize mulLo x d cv = LO at ma lo hs st
          generalize mulHi x d cv = HI at ma st
          generalize addLo r LO 0 = A at hs st
          generalize addHi r LO 0 = C at hs st
          obtain ⟨hwr,st⟩ := st
          have St := Lib.hid st
          have Ma := Lib.hid ma
          clear st ma hx hr hlz2 lo wx wr' wc hin
          go_wp2_with fail
          refine (Ma.out _).mono ?_
          rintro e w5 ⟨rfl,rfl⟩
          go_wp2_with fail
          exact ⟨⟨j + 1,_,_,by omega,by go_num,rfl,hak.set _ _,St.out,hB2.setCell (p := ⟨w.heap.size,k + j,none⟩) (Nat.le_refl _) _⟩,by simp [intOf]; omega⟩
        · obtain rfl : j = n1 := by omega
          have hlz2 := Hlz.out
          have hlk := hin.1
          have hcz := hak.cell (k + j) (by rw [hlk]; omega)
          have hfz := hak.free (k + j)
          generalize lk.getD (k + j) 0 = r at hcz
          have In := Lib.hid hin
          clear hin hlz2 hlk
          go_wp2_with fail
          have hfin := hout.step rfl hlt (by omega) (by rw [Hd.out]; exact In.out)
          exact ⟨⟨k + 1,_,by omega,by go_num,hak.set _ _,hfin,hB2.setCell (p := ⟨w.heap.size,k + j,none⟩) (Nat.le_refl _) _⟩,by simp [intOf]; omega⟩
    · obtain rfl : k = n2 := by omega
      clear hmk
      go_wp2_with fail
      go_ret
      exact ⟨rfl,⟨lz,haz,hout⟩,hB⟩
end Go.Proofs.YtgccgacpifebbaaGreatDoor
namespace Go.Proofs.YtgccgacpifebbaaGreatDoor
open Go.RowKit
set_option linter.unusedVariables false
set_option maxRecDepth 100000 in
set_option maxHeartbeats 1000000 in
theorem product_any (b1 t1 n1 c1 : Nat) (l1 : List Int) (b2 t2 n2 c2 : Nat) (l2 : List Int) (w : World) (ha1 : Arr w b1 t1 .u64 l1) (ha2 : Arr w b2 t2 .u64 l2) (h1 : n1 ≤ l1.length) (h2 : n2 ≤ l2.length) (hm1 : n1 < 40) (hm2 : n2 < 40) (hw1 : Words l1) (hw2 : Words l2) :
    Calls Tryz.prog 80 #[.slice (some ⟨b1,0,none⟩) n1 c1,.slice (some ⟨b2,0,none⟩) n2 c2] w fun e w' =>
      e = .returned (.slice (some ⟨w.heap.size,0,none⟩) (n1 + n2) (n1 + n2)) ∧ (∃ lz,Arr w' w.heap.size 23 .u64 lz ∧ lz.length = n1 + n2 ∧ Words lz ∧ val lz = val (l1.take n1) * val (l2.take n2)) ∧ Below w.heap.size w w' := by
  by_cases hlt : n1 < n2
  · go_enter Tryz.func80,Tryz.ntmps80
    go_wp2_with (go_at_call 110; refine (pbw_any b2 t2 n2 c2 l2 b1 t1 n1 c1 l1 w ha2 ha1 h2 h1 (by omega) (by omega) hw2 hw1).mono ?_; rintro e w' ⟨rfl,⟨lz,hz,ho⟩,hB⟩)
    go_ret
    rw [Nat.add_comm n2 n1]
    refine ⟨rfl,⟨lz,hz,by rw [ho.1]; omega,ho.2.1,?_⟩,hB⟩
    have h := ho.2.2.2
    rw [seg_all,seg_all,seg_all,List.take_of_length_le (by rw [ho.1]; omega)] at h
    rw [h,Int.mul_comm]
  · go_enter Tryz.func80,Tryz.ntmps80
    go_wp2_with (go_at_call 110; refine (pbw_any b1 t1 n1 c1 l1 b2 t2 n2 c2 l2 w ha1 ha2 h1 h2 (by omega) (by omega) hw1 hw2).mono ?_; rintro e w' ⟨rfl,⟨lz,hz,ho⟩,hB⟩)
    go_ret
    refine ⟨rfl,⟨lz,hz,ho.1,ho.2.1,?_⟩,hB⟩
    have h := ho.2.2.2
    rw [seg_all,seg_all,seg_all,List.take_of_length_le (by rw [ho.1]; omega)] at h
    exact h
end Go.Proofs.YtgccgacpifebbaaGreatDoor
