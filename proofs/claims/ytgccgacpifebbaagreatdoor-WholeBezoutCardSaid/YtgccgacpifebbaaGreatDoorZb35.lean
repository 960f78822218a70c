/- GcdM GcdY AppKept -/
import Derived.Test.YtgccgacpifebbaaGreatDoorZb34
import Derived.Test.YtgccgacpifebbaaGreatDoorZb28
namespace Go.Proofs.YtgccgacpifebbaaGreatDoor
open Go.RowKit
set_option linter.unusedVariables false
theorem and_mask {a l : Int} (ha : Word a) (hl : -9223372036854775808 ≤ l ∧ l < 9223372036854775808) : bits .and .u64 a (IntKind.u64.wrap (l / 9223372036854775808)) = if l < 0 then a else 0 := by
  obtain ⟨A,rfl⟩ := Int.eq_ofNat_of_zero_le ha.1
  have hA := ha.2
  split
  · rw [show l / 9223372036854775808 = -1 by omega,show IntKind.u64.wrap (-1) = ((18446744073709551615 : Nat) : Int) by decide,bits_and_u64_nat A 18446744073709551615 (by omega) (by decide)]
    rw [show (18446744073709551615 : Nat) = 2 ^ 64 - 1 by decide,Nat.and_two_pow_sub_one_eq_mod]
    omega
  · rw [show l / 9223372036854775808 = 0 by omega,show IntKind.u64.wrap 0 = ((0 : Nat) : Int) by decide,bits_and_u64_nat A 0 (by omega) (by decide),Nat.and_zero]; rfl
theorem wraps_sum {x y d e : Int} (h : -9223372036854775808 ≤ x + y + d + e ∧ x + y + d + e < 9223372036854775808) : wrap64 (IntKind.u64.wrap (IntKind.u64.wrap (IntKind.u64.wrap (IntKind.u64.wrap x + IntKind.u64.wrap y) + d) + e)) = x + y + d + e := by
  simp only [IntKind.wrap_u64]
  unfold wrap64
  omega
theorem mul_off {a l u : Int} (hu : IntKind.u64.wrap l = u) (hl : -2147483648 < l ∧ l < 2147483648) : a * u = a * l + 18446744073709551616 * (if l < 0 then a else 0) := by
  rw [IntKind.wrap_u64] at hu
  split
  · rw [← hu,show l % 18446744073709551616 = l + 18446744073709551616 by omega,Int.mul_add,Int.mul_comm a 18446744073709551616]
  · rw [← hu,show l % 18446744073709551616 = l by omega]; omega
theorem mul_near {a l : Int} (ha : Word a) (hl : -2147483648 < l ∧ l < 2147483648) : a * -2147483648 ≤ a * l ∧ a * l ≤ a * 2147483648 :=
  ⟨Int.mul_le_mul_of_nonneg_left (by omega) ha.1,Int.mul_le_mul_of_nonneg_left (by omega) ha.1⟩
theorem turn_sum {a b l m c u v k la pa lb pb s1 d1 s2 d2 : Int} (ha : Word a) (hb : Word b) (hl : -2147483648 < l ∧ l < 2147483648) (hm : -2147483648 < m ∧ m < 2147483648) (hc : -8589934592 ≤ c ∧ c ≤ 8589934592)
    (hu : IntKind.u64.wrap l = u) (hv : IntKind.u64.wrap m = v) (hk : IntKind.u64.wrap c = k) (w2 : Word s2) (eA : la + 18446744073709551616 * pa = a * u + 0) (eB : lb + 18446744073709551616 * pb = b * v + 0) (e1 : s1 + 18446744073709551616 * d1 = la + lb + 0) (e2 : s2 + 18446744073709551616 * d2 = s1 + k + 0) :
    s2 + 18446744073709551616 * wrap64 (wrap64 (IntKind.u64.wrap (IntKind.u64.wrap (IntKind.u64.wrap (IntKind.u64.wrap (pa - bits .and .u64 a (IntKind.u64.wrap (l / 9223372036854775808))) + IntKind.u64.wrap (pb - bits .and .u64 b (IntKind.u64.wrap (m / 9223372036854775808)))) + d1) + d2)) + c / 9223372036854775808) = a * l + b * m + c := by
  rw [and_mask ha (by omega),and_mask hb (by omega)]
  rw [mul_off hu hl] at eA
  rw [mul_off hv hm] at eB
  have k1 := mul_near ha hl
  have k2 := mul_near hb hm
  generalize (if l < 0 then a else 0) = na at *
  generalize (if m < 0 then b else 0) = nb at *
  generalize a * l = al at *
  generalize b * m = bm at *
  unfold Word at ha hb w2
  rw [IntKind.wrap_u64] at hk
  have hT : -9223372036854770000 ≤ pa - na + (pb - nb) + d1 + d2 ∧ pa - na + (pb - nb) + d1 + d2 < 9223372036854770000 := by omega
  rw [wraps_sum (by omega)]
  generalize hTT : pa - na + (pb - nb) + d1 + d2 = T at *
  have hw : wrap64 (T + c / 9223372036854775808) = T + c / 9223372036854775808 := by unfold wrap64; omega
  rw [hw]
  omega
set_option maxRecDepth 100000 in
set_option maxHeartbeats 4000000 in
theorem turnAdd_any (a b l m c : Int) (ha : Word a) (hb : Word b) (hl : -2147483648 < l ∧ l < 2147483648) (hm : -2147483648 < m ∧ m < 2147483648) (hc : -8589934592 ≤ c ∧ c ≤ 8589934592) (w : World) :
    Calls Tryz.prog 99 #[.int .u64 a,.int .u64 b,.agg #[.int .i64 l,.int .i64 m],.int .i64 c] w fun e w' => ∃ lo hi,e = .returned (.tuple #[.int .u64 lo,.int .i64 hi]) ∧ Word lo ∧ lo + 18446744073709551616 * hi = a * l + b * m + c ∧ Below w.heap.size w w' := by
  have hN := heap_new w (.cells #[.int .i64 l,.int .i64 m] 108) w.heap.size rfl
  have hB : Below w.heap.size w (w.alloc (.cells #[.int .i64 l,.int .i64 m] 108)) := by go_grown
  have wl : Word (IntKind.u64.wrap l) := by rw [IntKind.wrap_u64]; exact ⟨by omega,by omega⟩
  have wm : Word (IntKind.u64.wrap m) := by rw [IntKind.wrap_u64]; exact ⟨by omega,by omega⟩
  have wc : Word (IntKind.u64.wrap c) := by rw [IntKind.wrap_u64]; exact ⟨by omega,by omega⟩
  obtain ⟨u,hu⟩ : ∃ u,IntKind.u64.wrap l = u := ⟨_,rfl⟩
  obtain ⟨v,hv⟩ : ∃ u,IntKind.u64.wrap m = u := ⟨_,rfl⟩
  obtain ⟨k,hk⟩ : ∃ u,IntKind.u64.wrap c = u := ⟨_,rfl⟩
  rw [hu] at wl
  rw [hv] at wm
  rw [hk] at wc
  have m1 := fun w => mul64_any a u ha wl w
  have m2 := fun w => mul64_any b v hb wm w
  have wA := mulLo_word a u 0
  have wB := mulLo_word b v 0
  have hA := mulHi_word ha wl (e := 0) ⟨by decide,by decide⟩
  have hB' := mulHi_word hb wm (e := 0) ⟨by decide,by decide⟩
  have eA := mul_eq a u 0
  have eB := mul_eq b v 0
  generalize mulLo a u 0 = la at *
  generalize mulLo b v 0 = lb at *
  generalize mulHi a u 0 = pa at *
  generalize mulHi b v 0 = pb at *
  have a1 := fun w => add64' la lb 0 wA wB (.inl rfl) w
  have w1 := addLo_word la lb 0
  have c1 := addHi_bit wA wB (.inl rfl)
  have e1 := add_eq la lb 0
  generalize addLo la lb 0 = s1 at *
  generalize addHi la lb 0 = d1 at *
  have a2 := fun w => add64' s1 k 0 w1 wc (.inl rfl) w
  have w2 := addLo_word s1 k 0
  have c2 := addHi_bit w1 wc (.inl rfl)
  have e2 := add_eq s1 k 0
  generalize addLo s1 k 0 = s2 at *
  generalize addHi s1 k 0 = d2 at *
  have HH := Lib.hid (turn_sum ha hb hl hm hc hu hv hk w2 eA eB e1 e2)
  clear eA eB e1 e2
  go_enter Tryz.func99,Tryz.ntmps99
  go_wp2_with fail
  refine (m1 _).mono ?_
  rintro e w' ⟨rfl,rfl⟩
  go_wp2_with fail
  refine (m2 _).mono ?_
  rintro e w' ⟨rfl,rfl⟩
  go_wp2_with fail
  refine bodyPost_ret (v := .tuple #[.int .u64 s2,.int .i64 _]) ?_ rfl ⟨s2,_,rfl,w2,HH.out,hB⟩
  simp [results,Tryz.results99]
end Go.Proofs.YtgccgacpifebbaaGreatDoor
namespace Go.Proofs.YtgccgacpifebbaaGreatDoor
open Go.RowKit
set_option linter.unusedVariables false
set_option maxRecDepth 100000 in
set_option maxHeartbeats 4000000 in
theorem trim_row (b : Nat) (t : TypeId) (len cap : Nat) (l : List Int) (w : World) (ha : Arr w b t .u64 l) (hl : len ≤ cap) (hc : cap ≤ l.length) (hm : len ≤ 140737488355328) :
    Calls Tryz.prog 100 #[.slice (some ⟨b,0,none⟩) len cap] w fun e w' => e = .returned (.slice (some ⟨b,0,none⟩) (trimLen l len) cap) ∧ w = w' := by
  go_enter Tryz.func100,Tryz.ntmps100
  go_wp2_with fail
  go_loop [3] (fun i => ∃ k : Nat,k ≤ len ∧ i = .int .i64 k ∧ trimLen l len = trimLen l k) (fun i => (intOf i).toNat)
  case atStart => exact ⟨len,Nat.le_refl _,rfl,rfl⟩
  case round =>
    obtain ⟨k,hk,rfl,he⟩ := hrel
    have He := Lib.hid he
    clear he
    cases k with
    | zero =>
      go_wp2
      go_ret
      exact ⟨by rw [He.out]; rfl,rfl⟩
    | succ k =>
      have hcell := ha.cell k (by omega)
      by_cases hz : l.getD k 0 = 0
      · rw [hz] at hcell
        have Hz := Lib.hid hz
        clear hz
        go_wp2
        exact ⟨⟨k,by omega,rfl,by rw [He.out,trimLen_zero Hz.out]⟩,by simp [intOf]⟩
      · have hz' : (l.getD k 0 == 0) = false := by simpa using hz
        have Hz := Lib.hid hz
        clear hz
        generalize l.getD k 0 = x at hcell hz'
        go_wp2
        go_ret
        exact ⟨by rw [He.out,trimLen_stop Hz.out]; rfl,rfl⟩
end Go.Proofs.YtgccgacpifebbaaGreatDoor
namespace Go.Proofs.YtgccgacpifebbaaGreatDoor
open Go.RowKit
set_option linter.unusedVariables false
theorem setCells_kept (b : Nat) : ∀ (vs : List Value) (o : Nat) (w : World), w.grownBy (w.setCells b o vs) (some b)
  | [], _, w => World.grownBy.refl w _
  | v :: r, o, w => by
    have h := setCells_kept b r (o + 1) (w.setCell ⟨b, o, none⟩ v)
    have hs := Below.setCell (Below.refl 0 w) (p := ⟨b, o, none⟩) (Nat.zero_le b) v
    refine ⟨h.os.trans hs.os, h.tape.trans hs.tape, h.output.trans hs.output, Nat.le_trans hs.size h.size, fun q hq hne => ?_⟩
    exact (h.block q (Nat.lt_of_lt_of_le hq hs.size) hne).trans (heap_setCell_other w ⟨b, o, none⟩ q v (fun e => hne (by rw [e])))
/-- From v to v' nothing was turned but v's own block; v' lies in v's block, or in a new one. -/
def Keeps (v v' : Value) (w w' : World) : Prop := w.heap.size ≤ w'.heap.size ∧ (∀ q, q < w.heap.size → (∀ l c, v ≠ .slice (some ⟨q, 0, none⟩) l c) → w'.heap[q]? = w.heap[q]?) ∧ (∀ b l c, v' = .slice (some ⟨b, 0, none⟩) l c → w.heap.size ≤ b ∨ ∃ l c, v = .slice (some ⟨b, 0, none⟩) l c)
theorem Keeps.trans {v v1 v2 : Value} {w w1 w2 : World} (h : Keeps v v1 w w1) (g : Keeps v1 v2 w1 w2) : Keeps v v2 w w2 := by
  refine ⟨Nat.le_trans h.1 g.1, fun q hq hv => ?_, fun b l c hb => ?_⟩
  · rw [g.2.1 q (Nat.lt_of_lt_of_le hq h.1) (fun l c e => ?_), h.2.1 q hq hv]
    rcases h.2.2 q l c e with k | ⟨l, c, k⟩
    · exact absurd hq (Nat.not_lt.2 k)
    · exact hv l c k
  · rcases g.2.2 b l c hb with k | ⟨l, c, k⟩
    · exact .inl (Nat.le_trans h.1 k)
    · exact h.2.2 b l c k
theorem Keeps.below {v : Value} {w w' : World} (h : Below w.heap.size w w') : Keeps v v w w' := ⟨h.size, fun q hq _ => h.block q hq, fun b l c e => .inr ⟨l, c, e⟩⟩
/-- append of some integers to a row of the call's own: all other blocks stay as they were. -/
theorem app_kept {P : Program} {k : IntKind} {t tx e : TypeId} {bytes : Nat} (ty : TypeId) (hu : P.underlying t = some (.slice e)) (hinfo : (P.info? e).map (fun i => (i.zero, i.size, i.bytes)) = some (some (.int k 0), 1, bytes)) (hby : bytes ≤ 8)
    {w : World} {B : Nat} {v x : Value} {xs ys : List Int} (hB : B ≤ w.heap.size) (h : Own w B k e v xs) (hs : Src P 1 tx x ys.length (ys.map (Value.int k)) w) (hy : 1 ≤ ys.length) (hm : xs.length + ys.length ≤ 4294967296) :
    ∃ v' w' row, (Builtin.append_ #[t, tx] ty #[v, x]).run P w = .ok v' w' ∧ Own w' B k e v' (xs ++ ys) ∧ Below B w w' ∧ w.grownBy w' row ∧ (∀ r, row = some r → ∃ l c, v = .slice (some ⟨r, 0, none⟩) l c) ∧ Keeps v v' w w' := by
  obtain ⟨i, hi, hz, hsz, hb⟩ := info_parts hinfo
  have hg : ∀ (base : Option Addr) (cap : Nat) (hcap : cap < xs.length + ys.length) (hold : (Builtin.firstCells i.size xs.length (.slice base xs.length cap)).run P w.drew = .ok (xs.map (Value.int k)).toArray w.drew),
      ∃ v' w', (Builtin.append_ #[t, tx] ty #[.slice base xs.length cap, x]).run P w = .ok v' w' ∧ Own w' B k e v' (xs ++ ys) ∧ Below B w w' ∧ w.grownBy w' none ∧ Keeps (.slice base xs.length cap) v' w w' := by
    intro base cap hcap hold
    have hr := run_append_grow_src (P := P) w t tx ty e i _ hu hi hz base xs.length cap (xs.map (Value.int k)) hold x ys.length (ys.map (Value.int k)) (by rw [hsz]; exact hs) hcap (by omega) (growslice_fits hcap (by rw [hb]; have := Nat.mul_le_mul_left (xs.length + ys.length) hby; omega))
    rw [zeroCells_int] at hr
    have hge := grownCap_ge w (xs.length + ys.length) cap e
    generalize grownCap w (xs.length + ys.length) cap e = c at hr hge
    have e0 : ((xs.map (Value.int k)) ++ (ys.map (Value.int k))).toArray ++ ((List.replicate (c - (xs.length + ys.length)) (0 : Int)).map (Value.int k)).toArray = (((xs ++ ys) ++ List.replicate (c - (xs.length + ys.length)) 0).map (Value.int k)).toArray := by simp
    rw [e0] at hr
    refine ⟨_, _, hr, .inr ⟨w.heap.size, c - (xs.length + ys.length), by rw [List.length_append]; congr 1; omega, Arr.new w.drew e k _ _ rfl, hB⟩, (Below.refl B w).drew.alloc hB _, ?_⟩
    have hg := ((Below.refl w.heap.size w).drew.alloc (Nat.le_refl _) (.cells ((((xs ++ ys) ++ List.replicate (c - (xs.length + ys.length)) 0).map (Value.int k)).toArray) e))
    exact ⟨⟨hg.os, hg.tape, hg.output, hg.size, fun q hq _ => hg.block q hq⟩, hg.size, fun q hq _ => hg.block q hq, fun b l c e => .inl (by simp only [Value.slice.injEq, Option.some.injEq, Addr.mk.injEq] at e; omega)⟩
  rcases h with ⟨rfl, rfl⟩ | ⟨b, z, rfl, ha, hb⟩
  · obtain ⟨v', w', h1, h2, h3, h4, h5⟩ := hg none 0 (by simp; omega) (run_firstCells_none w.drew i.size 0 0 0)
    exact ⟨v', w', none, h1, h2, h3, h4, (fun r hr => by cases hr), h5⟩
  · by_cases hroom : xs.length + ys.length ≤ xs.length + z
    · have hr := run_append_room_src (P := P) w t tx ty e i hu hi b 0 xs.length (xs.length + z) x ys.length (ys.map (Value.int k)) (by rw [hsz]; exact hs) hroom
        (fun j hj => by rw [hsz, ha.cell _ (by simp at hj ⊢; omega)]; rfl) (fun j hj => ha.free _)
      rw [hsz, Nat.zero_add, Nat.mul_one] at hr
      have h1 := setCells_arr b e k ys xs.length w _ ha (by simp; omega)
      rw [List.take_left, List.drop_append, List.drop_of_length_le (by omega), List.nil_append, Nat.add_sub_cancel_left, List.drop_replicate, ← List.append_assoc] at h1
      exact ⟨_, _, some b, hr, .inr ⟨b, z - ys.length, by rw [List.length_append]; congr 1; omega, h1, hb⟩, setCells_below b B hb _ _ _ _ (Below.refl B w), setCells_kept b _ _ _, (fun r hr => by cases hr; exact ⟨_, _, rfl⟩), (setCells_kept b _ _ _).size, (fun q hq hv => (setCells_kept b _ _ _).block q hq (fun e => by cases e; exact hv _ _ rfl)), fun b' l c e => .inr (by cases e; exact ⟨_, _, rfl⟩)⟩
    · suffices hold : _ by
        obtain ⟨v', w', h1, h2, h3, h4, h5⟩ := hg _ (xs.length + z) (by omega) hold
        exact ⟨v', w', none, h1, h2, h3, h4, (fun r hr => by cases hr), h5⟩
      refine run_firstCells_some (P := P) w.drew i.size xs.length _ _ _ _ (by rw [hsz]; simp) (fun j u hj => ?_)
      have hjn : j < xs.length := by
        have := (List.getElem?_eq_some_iff.1 hj).1
        simpa using this
      have hadd : (⟨b, 0, none⟩ : Addr).add j = ⟨b, j, none⟩ := by unfold Addr.add; split <;> simp_all
      have hx : (xs ++ List.replicate z 0).getD j 0 = xs.getD j 0 := by simp [List.getD_eq_getElem?_getD, List.getElem?_append_left hjn]
      rw [hadd, ha.drew.cell j (by simp; omega), hx, ← hj, List.getElem?_map, List.getElem?_eq_getElem hjn]
      simp [List.getD_eq_getElem?_getD, List.getElem?_eq_getElem hjn]
end Go.Proofs.YtgccgacpifebbaaGreatDoor
