/- What NatTexts' walk wants beside the contracts: a text read both ways, a number's text read again, bytes behind noughts. -/
import Derived.Test.YtjoppmkknbpjbaaGreatDoorTextAny
import Derived.Test.YtjoppmkknbpjbaaGreatDoorFromAny
import Derived.Test.YtjoppmkknbpjbaaGreatDoorRefPow
import Derived.Test.YtjoppmkknbpjbaaGreatDoorBack
import Derived.Lib.AppendZeros
namespace Go.Proofs.YtjoppmkknbpjbaaGreatDoor
open Go.RowKit
set_option linter.unusedVariables false

/-- Any number as one of 0 to m - 1. -/
theorem pick_at (x m : Int) (hx : -9223372036854775808 ≤ x) (hx2 : x ≤ 9223372036854775807) (hm : 0 < m) (hm2 : m ≤ 4611686018427387904) (w : World) :
    Calls Tryz.prog 14 #[.int .i64 x, .int .i64 m] w fun e w' => (∃ p : Nat, (p : Int) < m ∧ e = .returned (.int .i64 p)) ∧ w = w' := by
  have h1 : -m < x.tmod m := by
    have := Int.tmod_lt_of_pos (-x) hm
    rw [Int.neg_tmod] at this
    omega
  have h2 : x.tmod m < m := Int.tmod_lt_of_pos x hm
  have hz : (m == 0) = false := by simp; omega
  obtain ⟨t, ht⟩ : ∃ t, x.tmod m = t := ⟨_, rfl⟩
  rw [ht] at h1 h2
  by_cases hneg : t < 0
  · obtain ⟨p, hp⟩ := Int.eq_ofNat_of_zero_le (show 0 ≤ t + m by omega)
    have hp2 : (p : Int) < m := by omega
    have hge : -4611686018427387904 ≤ t := by omega
    have Hp2 := Lib.hid hp2
    clear hp2
    go_enter Tryz.func14, Tryz.ntmps14
    go_wp2_with fail
    go_ret
    exact ⟨⟨p, Hp2.out, by first | rfl | (congr 2)⟩, rfl⟩
  · obtain ⟨p, rfl⟩ := Int.eq_ofNat_of_zero_le (show 0 ≤ t by omega)
    have hge : (0 : Int) ≤ (p : Int) := by omega
    go_enter Tryz.func14, Tryz.ntmps14
    go_wp2_with fail
    go_ret
    exact ⟨⟨p, h2, by first | rfl | (congr 2)⟩, rfl⟩
theorem step_append_in {F : Fence} {n : Nat} {P : Program} {ops : Array Oper} {o : Oper} {a : Act} {w : World} {K : Act → World → Prop} {Q : Exit → Act → World → Prop} {E : Prop}
    (hg : o.guard = none) (s x : Operand) (t tx : TypeId) (hop : o.op = .call { callee := .builtin .append, args := #[s, x], argTypes := #[t, tx] }) (vs vx : Value) (hs : a.eval s = vs) (hx : a.eval x = vx)
    (v' : Value) (w' : World) (hr : (Builtin.append_ #[t, tx] o.type #[vs, vx]).run P w = .ok v' w') (hK : K (a.put o.dst v') w') :
    if Region.wanted o (yielded ops a.tmps) = true then Oper.wpIn F n P o a w K Q else E := by
  have hw : Region.wanted o (yielded ops a.tmps) = true := by simp [Region.wanted, hg]
  rw [if_pos hw]
  refine ⟨fun f hf => ?_, ?_⟩
  · simp [Oper.about, hop, resolve, Target.leads, Sem.run_pure] at hf
  · rw [Oper.semAt_plain F _ _ (by rw [hop]; intro c hc'; cases hc')]
    simp only [execOp, hop, resolve, invoke, builtin, Sem.run_bind, Sem.run_pure, Result.andThen_ok, List.map_toArray, List.map_cons, List.map_nil, hs, hx, hr]
    exact hK
theorem ten_pw : (10 : Int) ^ 200 < pw 11 := by decide +kernel
/-- A text read by the program and by the document: the same number, or none for both. -/
theorem parse_pair (s : ByteArray) (hs : s.size ≤ 9223372036854775807) : ∃ (ok : Bool) (N : Int), N < pw 11 ∧
    (∀ w, Calls Tryz.prog 5 #[.string s] w fun e w' => ∃ v, e = .returned (.tuple #[v, .bool ok]) ∧ IsNat w' v N ∧ Below w.heap.size w w') ∧
    (∀ w, Calls Tryz.prog 6 #[.string s] w fun e w' => ∃ v, e = .returned (.tuple #[v, .bool ok]) ∧ IsNum w' v N ∧ Below w.heap.size w w') := by
  by_cases h : IsDec s
  · refine ⟨true, decTo s s.size, ?_, fun w => ?_, fun w => ?_⟩
    · have h1 := (decTo_ten (s := s) (k := s.size) h.2.2.1).2
      have h2 := ten_mono h.2.1
      have := ten_pw
      omega
    · refine (parse_any s w hs).mono ?_
      rintro e w' (⟨_, v, rfl, hv, hb⟩ | ⟨hn, _⟩)
      · exact ⟨v, rfl, hv, hb⟩
      · exact absurd h hn
    · refine (natParse_any s w hs).mono ?_
      rintro e w' (⟨_, v, rfl, hv, hb⟩ | ⟨hn, _⟩)
      · exact ⟨v, rfl, hv, hb⟩
      · exact absurd h hn
  · refine ⟨false, 0, pw_pos _, fun w => ?_, fun w => ?_⟩
    · refine (parse_any s w hs).mono ?_
      rintro e w' (⟨hn, _⟩ | ⟨_, rfl, hb⟩)
      · exact absurd hn h
      · exact ⟨_, rfl, IsNat.word ⟨by decide, by decide⟩, hb⟩
    · refine (natParse_any s w hs).mono ?_
      rintro e w' (⟨hn, _⟩ | ⟨_, rfl, hb⟩)
      · exact absurd hn h
      · exact ⟨_, rfl, num_nil _, hb⟩
theorem parse_text {t : ByteArray} {X : Int} (h : IsText t X) (hX : X < pw 6) (w : World) : Calls Tryz.prog 5 #[.string t] w fun e w' => ∃ v, e = .returned (.tuple #[v, .bool true]) ∧ IsNat w' v X ∧ Below w.heap.size w w' := by
  have h10 : pw 6 < 10 ^ 116 := by decide +kernel
  have hsz := h.size_le (m := 116) (by omega) (by decide)
  obtain ⟨h1, h2, h3, h4⟩ := h
  refine (parse_any t w (by omega)).mono ?_
  rintro e w' (⟨_, v, rfl, hv, hb⟩ | ⟨hn, _⟩)
  · rw [h4] at hv
    exact ⟨v, rfl, hv, hb⟩
  · exact absurd ⟨h1, by omega, h2, h3⟩ hn
/-- append(noughts, bytes...). -/
theorem app_bytes {w : World} {b g p m : Nat} {X : Int} (ha : Arr w b 5 .u8 (be X m)) (hg : Arr w g 5 .u8 (List.replicate p 0)) (hp : p ≤ 100) (hm : m ≤ 100) :
    ∃ d z w', (Builtin.append_ #[22, 22] 22 #[.slice (some ⟨g, 0, none⟩) p p, .slice (some ⟨b, 0, none⟩) m m]).run Tryz.prog w = .ok (.slice (some ⟨d, 0, none⟩) (p + m) (p + m + z)) w' ∧ Arr w' d 5 .u8 (List.replicate p 0 ++ be X m ++ List.replicate z 0) ∧ p + m + z ≤ 9223372036854775807 ∧ Below w.heap.size w w' := by
  have hlen : (be X m).length = m := be_length X m
  have hs : Src Tryz.prog 1 22 (.slice (some ⟨b, 0, none⟩) m m) m ((be X m).map (Value.int .u8)) w := by
    refine Src.ofSlice w Tryz.underlying22 ⟨b, 0, none⟩ m m _ (by simp [be_length]) (fun j u hj => ?_) (fun u hu => ?_)
    · have hadd : (⟨b, 0, none⟩ : Addr).add j = ⟨b, j, none⟩ := by unfold Addr.add; split <;> simp_all
      have hjm : j < m := by
        have := (List.getElem?_eq_some_iff.1 hj).1
        simpa [be_length] using this
      rw [hadd, ha.cell j (by omega), ← hj, List.getElem?_map, List.getD_eq_getElem?_getD, List.getElem?_eq_getElem (by omega)]
      rfl
    · obtain ⟨y, _, rfl⟩ := List.mem_map.1 hu
      rfl
  obtain ⟨i, hi, hz, hsz, hb⟩ := info_parts info8
  by_cases h0 : m = 0
  · subst h0
    have e0 : be X 0 = [] := List.eq_nil_of_length_eq_zero (be_length X 0)
    rw [e0] at hs
    have hr := run_append_room_src (P := Tryz.prog) w 22 22 22 5 i Tryz.underlying22 hi g 0 p p (.slice (some ⟨b, 0, none⟩) 0 0) 0 [] (by rw [hsz]; exact hs) (by omega) (fun j hj => absurd hj (Nat.not_lt_zero j)) (fun j hj => absurd hj (Nat.not_lt_zero j))
    refine ⟨g, 0, w, hr, ?_, by omega, Below.refl _ _⟩
    rw [e0]
    simpa using hg
  · have hold : (Builtin.firstCells i.size p (.slice (some ⟨g, 0, none⟩) p p)).run Tryz.prog w.drew = .ok ((List.replicate p (0 : Int)).map (Value.int .u8)).toArray w.drew := by
      refine run_firstCells_some (P := Tryz.prog) w.drew i.size p _ _ _ _ (by rw [hsz]; simp) (fun j u hj => ?_)
      have hadd : (⟨g, 0, none⟩ : Addr).add j = ⟨g, j, none⟩ := by unfold Addr.add; split <;> simp_all
      have hjn : j < p := by
        have := (List.getElem?_eq_some_iff.1 hj).1
        simpa using this
      rw [hadd, hg.drew.cell j (by simpa using hjn), ← hj, List.getElem?_map, List.getD_eq_getElem?_getD, List.getElem?_eq_getElem (by simpa using hjn)]
      rfl
    have hr := run_append_grow_src (P := Tryz.prog) w 22 22 22 5 i _ Tryz.underlying22 hi hz (some ⟨g, 0, none⟩) p p _ hold (.slice (some ⟨b, 0, none⟩) m m) m _ (by rw [hsz]; exact hs) (by omega) (by omega) (growslice_fits (by omega) (by rw [hb]; omega))
    rw [zeroCells_int] at hr
    have hge := grownCap_ge w (p + m) p 5
    have hle := grownCap_le_maxLen w (p + m) p 5 (by simp only [maxLen]; omega)
    generalize grownCap w (p + m) p 5 = c at hr hge hle
    obtain ⟨z, rfl⟩ : ∃ z, c = p + m + z := ⟨c - (p + m), by omega⟩
    rw [Nat.add_sub_cancel_left] at hr
    have e0 : ((List.replicate p (0 : Int)).map (Value.int .u8) ++ (be X m).map (Value.int .u8)).toArray ++ ((List.replicate z (0 : Int)).map (Value.int .u8)).toArray = (((List.replicate p (0 : Int) ++ be X m) ++ List.replicate z 0).map (Value.int .u8)).toArray := by simp
    rw [e0] at hr
    exact ⟨w.heap.size, z, _, hr, Arr.new w.drew 5 .u8 _ _ rfl, by simp only [maxLen] at hle; omega, (Below.refl _ w).drew.alloc (Nat.le_refl _) _⟩
theorem natBits_b (s : Value) (n : Int) (w : World) (h : IsNum w s n) : Calls Tryz.prog 12 #[s] w fun e w' => (∃ k : Nat, e = .returned (.int .i64 k) ∧ IsBits n k) ∧ Below w.heap.size w w' := by
  refine (natBits_num s n w h).mono ?_
  rintro e w' ⟨h1, rfl⟩
  exact ⟨h1, Below.refl _ _⟩
theorem pick_b (x m : Int) (hx : -9223372036854775808 ≤ x) (hx2 : x ≤ 9223372036854775807) (hm : 0 < m) (hm2 : m ≤ 4611686018427387904) (w : World) :
    Calls Tryz.prog 14 #[.int .i64 x, .int .i64 m] w fun e w' => (∃ p : Nat, (p : Int) < m ∧ e = .returned (.int .i64 p)) ∧ Below w.heap.size w w' := by
  refine (pick_at x m hx hx2 hm hm2 w).mono ?_
  rintro e w' ⟨h1, rfl⟩
  exact ⟨h1, Below.refl _ _⟩
theorem p256_mono {a b : Nat} (h : a ≤ b) : (256 : Int) ^ a ≤ 256 ^ b := by
  obtain ⟨k, rfl⟩ := Nat.exists_eq_add_of_le h
  rw [Int.pow_add]
  have h0 : (0 : Int) < 256 ^ a := Int.pow_pos (by decide)
  have h1 : (0 : Int) < 256 ^ k := Int.pow_pos (by decide)
  have h2 : (256 : Int) ^ a * 1 ≤ 256 ^ a * 256 ^ k := Int.mul_le_mul_of_nonneg_left (by omega) (Int.le_of_lt h0)
  rwa [Int.mul_one] at h2
/-- FromBytes of noughts and a number's bytes. -/
theorem from_pad (d z p m k : Nat) (X : Int) (w : World) (ha : Arr w d 5 .u8 (List.replicate p 0 ++ be X m ++ List.replicate z 0)) (hk : IsBits X k) (hm : m = (k + 7) / 8) (hp : p ≤ 9) (hm2 : m ≤ 100) (X0 : 0 ≤ X) (hz : p + m + z ≤ 9223372036854775807) :
    Calls Tryz.prog 13 #[.slice (some ⟨d, 0, none⟩) (p + m) (p + m + z)] w (RetNat X w) := by
  have hlt : X < 256 ^ m := by
    have h1 := hk.1
    have h2 := two_pow_mono (a := k) (b := 8 * m) (by omega)
    have h3 : (2 : Int) ^ (8 * m) = 256 ^ m := by rw [Int.pow_mul]; rfl
    omega
  by_cases h0 : p + m = 0
  · obtain rfl : p = 0 := by omega
    obtain rfl : m = 0 := by omega
    rw [Int.pow_zero] at hlt
    obtain rfl : X = 0 := by omega
    exact from_zero _ _ w
  · obtain ⟨len, hlen⟩ : ∃ len, p + m = len + 1 := ⟨p + m - 1, by omega⟩
    have hmono : (256 : Int) ^ m ≤ 256 ^ (len + 1) := p256_mono (by omega)
    rw [hlen] at hz ⊢
    refine from_any d 5 len _ _ X w ha (by rw [List.length_append, List.length_append, List.length_replicate, List.length_replicate, be_length]; omega) (by omega) hz (by omega) X0 (by omega) (fun j hj => ?_)
    by_cases hj1 : j < p
    · rw [List.append_assoc, List.getD_eq_getElem?_getD, List.getElem?_append_left (by simpa using hj1)]
      rw [List.getElem?_replicate, if_pos hj1]
      show (0 : Int) = byteAt X (len - j)
      unfold byteAt
      have e1 : X / 256 ^ (len - j) = 0 := by
        refine Int.ediv_eq_zero_of_lt X0 ?_
        have : (256 : Int) ^ m ≤ 256 ^ (len - j) := p256_mono (by omega)
        omega
      rw [e1]; rfl
    · rw [List.getD_eq_getElem?_getD, List.getElem?_append_left (by rw [List.length_append, List.length_replicate, be_length]; omega), List.getElem?_append_right (by rw [List.length_replicate]; omega), ← List.getD_eq_getElem?_getD, List.length_replicate, be_getD _ _ _ (by omega)]
      congr 1
      omega
end Go.Proofs.YtjoppmkknbpjbaaGreatDoor
