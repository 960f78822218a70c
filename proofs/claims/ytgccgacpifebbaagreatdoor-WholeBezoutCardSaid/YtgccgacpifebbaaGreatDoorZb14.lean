/- Div64 -/
import Derived.Test.YtgccgacpifebbaaGreatDoorZb13
namespace Go.Proofs.YtgccgacpifebbaaGreatDoor
open Go.RowKit
set_option linter.unusedVariables false
set_option maxRecDepth 100000 in
set_option maxHeartbeats 4000000 in
theorem div64_big (hi lo y : Int) (hh : Word hi) (hl : Word lo) (hy : Word y) (hlt : hi < y) (h0 : hi ≠ 0) (w : World) :
    Calls Tryz.prog 76 #[.int .u64 hi,.int .u64 lo,.int .u64 y] w fun e w' => e = .returned (.tuple #[.int .u64 ((hi * 18446744073709551616 + lo) / y),.int .u64 ((hi * 18446744073709551616 + lo) % y)]) ∧ w = w' := by
  have h0' : (hi == 0) = false := by simpa using h0
  have hy0 : (y == 0) = false := by unfold Word at *; simp; omega
  have hyh : ¬ y ≤ hi := by omega
  have hbl : Lib.bitLen y.toNat ≤ 64 := bitLen_le hy.2
  obtain ⟨S,hS⟩ : ∃ S : Nat,64 - Lib.bitLen y.toNat = S := ⟨_,rfl⟩
  have lz := Tryz.bits_LeadingZeros64 y w hy.1 (by have := hy.2; omega)
  rw [show (64 - (Lib.bitLen y.toNat : Int)) = (S : Int) by omega] at lz
  have hb := isBits_word hy
  have hb1 : 1 ≤ Lib.bitLen y.toNat := (Lib.bitLenAux_bounds 64 y.toNat (by unfold Word at hy; omega) (by unfold Word at hy hh; omega)).1
  have hS63 : S ≤ 63 := by omega
  -- the shifted words
  have hhi := hb.1
  have hlo := hb.2 (by omega)
  obtain ⟨k,hk⟩ : ∃ k,Lib.bitLen y.toNat = k := ⟨_,rfl⟩
  rw [hk] at hhi hlo hS hb1 hbl
  have p2 : (0 : Int) < 2 ^ S := Int.pow_pos (by decide)
  have ek : (2 : Int) ^ k * 2 ^ S = 18446744073709551616 := by rw [← Int.pow_add,show k + S = 64 by omega]; decide
  have ek1 : (2 : Int) ^ (k - 1) * 2 ^ S = 9223372036854775808 := by rw [← Int.pow_add,show k - 1 + S = 63 by omega]; decide
  have hY1 : y * 2 ^ S < 18446744073709551616 := by rw [← ek]; exact Int.mul_lt_mul_of_pos_right hhi p2
  have hY2 : 9223372036854775808 ≤ y * 2 ^ S := by rw [← ek1]; exact Int.mul_le_mul_of_nonneg_right hlo (by omega)
  have hH1 : hi * 2 ^ S + 2 ^ S ≤ y * 2 ^ S := by
    have : (hi + 1) * 2 ^ S ≤ y * 2 ^ S := Int.mul_le_mul_of_nonneg_right (by omega) (by omega)
    rwa [Int.add_mul,Int.one_mul] at this
  have hH0 : 0 ≤ hi * 2 ^ S := Int.mul_nonneg hh.1 (by omega)
  obtain ⟨hsp,hc0,hc1⟩ := shift_parts hl hS63
  have hor := or_shift (a := hi) (c := lo / 2 ^ (64 - S)) (S := S) hh.1 (by omega) (by omega) hc0 hc1
  have eY : IntKind.u64.wrap (y * 2 ^ S) = y * 2 ^ S := by rw [IntKind.wrap_u64]; omega
  have eH : IntKind.u64.wrap (hi * 2 ^ S) = hi * 2 ^ S := by rw [IntKind.wrap_u64]; omega
  rw [← eH] at hor
  have hE : Word (IntKind.u64.wrap (lo * 2 ^ S)) := by rw [IntKind.wrap_u64]; unfold Word; omega
  obtain ⟨Y,hYv⟩ : ∃ Y,y * 2 ^ S = Y := ⟨_,rfl⟩
  obtain ⟨A,hAv⟩ : ∃ A,hi * 2 ^ S + lo / 2 ^ (64 - S) = A := ⟨_,rfl⟩
  obtain ⟨E,hEv⟩ : ∃ E,IntKind.u64.wrap (lo * 2 ^ S) = E := ⟨_,rfl⟩
  have eY' : IntKind.u64.wrap (y * 2 ^ S) = Y := by rw [eY,hYv]
  rw [hYv] at hY1 hY2 hH1
  clear eY
  rw [eH,hAv] at hor
  rw [← eH] at hor
  rw [hEv] at hE hsp
  have hU : (hi * 18446744073709551616 + lo) * 2 ^ S = A * 18446744073709551616 + E := by
    rw [Int.add_mul,hsp,← hAv,Int.add_mul,Int.mul_right_comm]; omega
  have hA0 : 0 ≤ A := by omega
  have hAY : A < Y := by omega
  have wY : Word Y := ⟨by omega,by omega⟩
  have aY := and_low wY
  have aE := and_low hE
  -- the halves
  obtain ⟨Y1,hY1v⟩ : ∃ Y1,Y / 4294967296 = Y1 := ⟨_,rfl⟩
  obtain ⟨Y0,hY0v⟩ : ∃ Y0,Y % 4294967296 = Y0 := ⟨_,rfl⟩
  obtain ⟨E1,hE1v⟩ : ∃ E1,E / 4294967296 = E1 := ⟨_,rfl⟩
  obtain ⟨E0,hE0v⟩ : ∃ E0,E % 4294967296 = E0 := ⟨_,rfl⟩
  have dY : Y = Y1 * 4294967296 + Y0 := by omega
  have dE : E = E1 * 4294967296 + E0 := by omega
  have bY1 : 2147483648 ≤ Y1 ∧ Y1 < 4294967296 := by omega
  have bY0 : 0 ≤ Y0 ∧ Y0 < 4294967296 := by omega
  have bE1 : 0 ≤ E1 ∧ E1 < 4294967296 := by unfold Word at hE; omega
  have bE0 : 0 ≤ E0 ∧ E0 < 4294967296 := by omega
  rw [hY0v] at aY
  rw [hE0v] at aE
  have st1 := half_start (E1 := E1) hA0 bE1 bY1 bY0 (by omega)
  have td1 : A.tdiv Y1 = A / Y1 := Int.tdiv_eq_ediv_of_nonneg hA0
  obtain ⟨Q,hQ⟩ : ∃ Q,A / Y1 = Q := ⟨_,rfl⟩
  obtain ⟨R,hR⟩ : ∃ R,A % Y1 = R := ⟨_,rfl⟩
  rw [hQ] at td1 st1
  rw [hR] at st1
  have ER : IntKind.u64.wrap (A - IntKind.u64.wrap (IntKind.u64.wrap Q * Y1)) = R := by
    obtain ⟨⟨k1,k2,k3,k4,_⟩,k5⟩ := st1
    have e1 : IntKind.u64.wrap Q = Q := by rw [IntKind.wrap_u64]; omega
    rw [e1]; simp only [IntKind.wrap_u64]; omega
  have EQ : IntKind.u64.wrap Q = Q := by
    obtain ⟨⟨k1,k2,_⟩,_⟩ := st1
    rw [IntKind.wrap_u64]; omega
  rw [EQ] at ER
  have St1 := Lib.hid st1
  have HU := Lib.hid hU
  have HYv := Lib.hid hYv
  have DY := Lib.hid dY
  have DE := Lib.hid dE
  have Hb := Lib.hid (And.intro hA0 hAY)
  have WY := Lib.hid wY
  have BY := Lib.hid (And.intro bY1 bY0)
  have BE := Lib.hid (And.intro bE1 bE0)
  have z1 : ¬ Y1 = 0 := by omega
  obtain ⟨hh0,hh1⟩ := hh
  obtain ⟨hl0,hl1⟩ := hl
  obtain ⟨hy0',hy1⟩ := hy
  have p2 := Lib.hid p2
  clear hU hYv hAv dY dE st1 wY hsp hc0 hc1 hH0 hH1 eH ek ek1 hY0v hE0v hQ hR hhi hlo hS hk hb hbl hE hlt h0
  go_enter Tryz.func76,Tryz.ntmps76
  go_wp2_with (go_at_call 96; refine lz.mono ?_; rintro e w' ⟨rfl,rfl⟩)
  go_loop [15,16] (fun q r => ∃ qv rv : Int,q = .int .u64 qv ∧ r = .int .u64 rv ∧ HalfAt A E1 Y1 Y0 qv rv ∧ rv < 4294967296) (fun q _ => (intOf q).toNat)
  case atStart => exact ⟨_,_,rfl,rfl,St1.out⟩
  case round =>
    obtain ⟨qa,ra,rfl,rfl,hata,hra⟩ := hrel
    obtain ⟨b0a,b1a,r0a,hAa,hUa⟩ := hata
    have hata : HalfAt A E1 Y1 Y0 qa ra := ⟨b0a,b1a,r0a,hAa,hUa⟩
    have Hata := Lib.hid hata
    clear hata hUa hAa
    have e1a : IntKind.u64.wrap (4294967296 * ra) = 4294967296 * ra := by rw [IntKind.wrap_u64]; omega
    have e2a : IntKind.u64.wrap (4294967296 * ra + E1) = 4294967296 * ra + E1 := by rw [IntKind.wrap_u64]; omega
    by_cases hca : 4294967296 ≤ qa ∨ 4294967296 * ra + E1 < qa * Y0
    · have sta := Hata.out.step (by have := BE.out; omega) (by omega) (by omega) hra (by have := DY.out; have := Hb.out; omega) hca
      obtain ⟨sta,hq1a⟩ := sta
      have e4a : IntKind.u64.wrap (ra + Y1) = ra + Y1 := by rw [IntKind.wrap_u64]; omega
      have e5a : IntKind.u64.wrap (qa - 1) = qa - 1 := by rw [IntKind.wrap_u64]; omega
      have Sxa := Lib.hid sta
      clear sta
      by_cases hbra : 4294967296 ≤ ra + Y1
      · by_cases hga : 4294967296 ≤ qa
        · clear hca
          have hda := Sxa.out.done (by have := BE.out; omega) (by omega) (by omega) (by have := DY.out; have := Hb.out; omega) (.inr ⟨by omega,hbra⟩)
          rw [← DY.out] at hda
          have wr2 := half_next (A := A) (E1 := E1) (Y := Y) (G := (qa - 1)) hda.2 WY.out.2
          obtain ⟨G1,hG1⟩ : ∃ G1,(qa - 1) = G1 := ⟨_,rfl⟩
          obtain ⟨B2,hB2⟩ : ∃ B2,A * 4294967296 + E1 - (qa - 1) * Y = B2 := ⟨_,rfl⟩
          rw [hB2] at wr2
          have hb2 : 0 ≤ B2 ∧ B2 < Y := by have := hda.2; omega
          have HB2 : Hid (A * 4294967296 + E1 - G1 * Y = B2) := Lib.hid (by rw [← hG1]; exact hB2)
          have bG : Hid (0 ≤ G1 ∧ G1 < 4294967296) := Lib.hid (by rw [← hG1]; have := hda.1; omega)
          have HG1 := Lib.hid hG1
          have Hb2 := Lib.hid hb2
          have st2 := half_start (E1 := E0) hb2.1 bE0 bY1 bY0 (by have := DY.out; omega)
          have td2 : B2.tdiv Y1 = B2 / Y1 := Int.tdiv_eq_ediv_of_nonneg hb2.1
          obtain ⟨Q2,hQ2⟩ : ∃ Q2,B2 / Y1 = Q2 := ⟨_,rfl⟩
          obtain ⟨R2,hR2⟩ : ∃ R2,B2 % Y1 = R2 := ⟨_,rfl⟩
          rw [hQ2] at td2 st2
          rw [hR2] at st2
          obtain ⟨EQ2,ER2⟩ := half_rest st2 (by have := WY.out.2; omega)
          have St2 := Lib.hid st2
          clear st2 hQ2 hR2 hB2 hda hG1 hb2
          go_wp2_with fail
          go_loop [18,16] (fun q r => ∃ qv rv : Int,q = .int .u64 qv ∧ r = .int .u64 rv ∧ HalfAt B2 E0 Y1 Y0 qv rv ∧ rv < 4294967296) (fun q _ => (intOf q).toNat)
          case atStart => exact ⟨_,_,rfl,rfl,St2.out⟩
          case round =>
            obtain ⟨qb,rb,rfl,rfl,hatb,hrb⟩ := hrel
            obtain ⟨b0b,b1b,r0b,hAb,hUb⟩ := hatb
            have hatb : HalfAt B2 E0 Y1 Y0 qb rb := ⟨b0b,b1b,r0b,hAb,hUb⟩
            have Hatb := Lib.hid hatb
            clear hatb hUb hAb
            have e1b : IntKind.u64.wrap (4294967296 * rb) = 4294967296 * rb := by rw [IntKind.wrap_u64]; omega
            have e2b : IntKind.u64.wrap (4294967296 * rb + E0) = 4294967296 * rb + E0 := by rw [IntKind.wrap_u64]; omega
            by_cases hcb : 4294967296 ≤ qb ∨ 4294967296 * rb + E0 < qb * Y0
            · have stb := Hatb.out.step (by have := BE.out; omega) (by omega) (by omega) hrb (by have := DY.out; have := Hb2.out; omega) hcb
              obtain ⟨stb,hq1b⟩ := stb
              have e4b : IntKind.u64.wrap (rb + Y1) = rb + Y1 := by rw [IntKind.wrap_u64]; omega
              have e5b : IntKind.u64.wrap (qb - 1) = qb - 1 := by rw [IntKind.wrap_u64]; omega
              have Sxb := Lib.hid stb
              clear stb
              by_cases hbrb : 4294967296 ≤ rb + Y1
              · by_cases hgb : 4294967296 ≤ qb
                · clear hcb
                  have hdb := Sxb.out.done (by have := BE.out; omega) (by omega) (by omega) (by have := DY.out; have := Hb2.out; omega) (.inr ⟨by omega,hbrb⟩)
                  rw [← DY.out] at hdb
                  have wr3 := half_next (A := B2) (E1 := E0) (Y := Y) (G := (qb - 1)) hdb.2 WY.out.2
                  obtain ⟨R3,hR3⟩ : ∃ R3,B2 * 4294967296 + E0 - (qb - 1) * Y = R3 := ⟨_,rfl⟩
                  rw [hR3] at wr3
                  have fin := half_final p2.out HU.out HYv.out DE.out HB2.out hR3 (by have := hdb.2; omega) (by have := hdb.2; omega)
                  rw [← HG1.out] at fin
                  have wq1 := fin.1.symm
                  have wq : IntKind.u64.wrap (IntKind.u64.wrap ((qa - 1) * 4294967296) + (qb - 1)) = (hi * 18446744073709551616 + lo) / y := by
                    have := hdb.1; have := bG.out; have := HG1.out; rw [fin.1]; simp only [IntKind.wrap_u64]; omega
                  have wq2 : IntKind.u64.wrap ((hi * 18446744073709551616 + lo) / y) = (hi * 18446744073709551616 + lo) / y := by
                    have := hdb.1; have := bG.out; have := HG1.out; rw [fin.1]; simp only [IntKind.wrap_u64]; omega
                  have wr : R3 / 2 ^ S = (hi * 18446744073709551616 + lo) % y := fin.2
                  clear fin hdb hR3
                  go_wp2_with fail
                  go_ret2
                  exact ⟨rfl,rfl⟩
                · have hc2b : 4294967296 * rb + E0 < qb * Y0 := by omega
                  have hpb : 0 ≤ qb * Y0 ∧ qb * Y0 < 18446744073709551616 := half_bd b0b (by omega) (by omega) (by omega)
                  obtain ⟨Pb,hPb⟩ : ∃ P,qb * Y0 = P := ⟨_,rfl⟩
                  rw [hPb] at hc2b hpb
                  obtain ⟨hp0b,hp1b⟩ := hpb
                  clear hcb
                  have hdb := Sxb.out.done (by have := BE.out; omega) (by omega) (by omega) (by have := DY.out; have := Hb2.out; omega) (.inr ⟨by omega,hbrb⟩)
                  rw [← DY.out] at hdb
                  have wr3 := half_next (A := B2) (E1 := E0) (Y := Y) (G := (qb - 1)) hdb.2 WY.out.2
                  obtain ⟨R3,hR3⟩ : ∃ R3,B2 * 4294967296 + E0 - (qb - 1) * Y = R3 := ⟨_,rfl⟩
                  rw [hR3] at wr3
                  have fin := half_final p2.out HU.out HYv.out DE.out HB2.out hR3 (by have := hdb.2; omega) (by have := hdb.2; omega)
                  rw [← HG1.out] at fin
                  have wq1 := fin.1.symm
                  have wq : IntKind.u64.wrap (IntKind.u64.wrap ((qa - 1) * 4294967296) + (qb - 1)) = (hi * 18446744073709551616 + lo) / y := by
                    have := hdb.1; have := bG.out; have := HG1.out; rw [fin.1]; simp only [IntKind.wrap_u64]; omega
                  have wq2 : IntKind.u64.wrap ((hi * 18446744073709551616 + lo) / y) = (hi * 18446744073709551616 + lo) / y := by
                    have := hdb.1; have := bG.out; have := HG1.out; rw [fin.1]; simp only [IntKind.wrap_u64]; omega
                  have wr : R3 / 2 ^ S = (hi * 18446744073709551616 + lo) % y := fin.2
                  clear fin hdb hR3
                  go_wp2_with fail
                  go_ret2
                  exact ⟨rfl,rfl⟩
              · by_cases hgb : 4294967296 ≤ qb
                · clear hcb
                  go_wp2_with fail
                  exact ⟨⟨_,_,by go_num,by go_num,Sxb.out,by omega⟩,by simp [intOf]; omega⟩
                · have hc2b : 4294967296 * rb + E0 < qb * Y0 := by omega
                  have hpb : 0 ≤ qb * Y0 ∧ qb * Y0 < 18446744073709551616 := half_bd b0b (by omega) (by omega) (by omega)
                  obtain ⟨Pb,hPb⟩ : ∃ P,qb * Y0 = P := ⟨_,rfl⟩
                  rw [hPb] at hc2b hpb
                  obtain ⟨hp0b,hp1b⟩ := hpb
                  clear hcb
                  go_wp2_with fail
                  exact ⟨⟨_,_,by go_num,by go_num,Sxb.out,by omega⟩,by simp [intOf]; omega⟩
            · have hgb : ¬ 4294967296 ≤ qb := by omega
              have hc2b : ¬ 4294967296 * rb + E0 < qb * Y0 := by omega
              have hdb := Hatb.out.done (by have := BE.out; omega) (by omega) (by omega) (by have := DY.out; have := Hb2.out; omega) (.inl ⟨by omega,by omega⟩)
              rw [← DY.out] at hdb
              have Hdb := Lib.hid hdb
              clear hdb
              have hpb : 0 ≤ qb * Y0 ∧ qb * Y0 < 18446744073709551616 := half_bd b0b (by omega) (by omega) (by omega)
              obtain ⟨Pb,hPb⟩ : ∃ P,qb * Y0 = P := ⟨_,rfl⟩
              rw [hPb] at hc2b hpb
              obtain ⟨hp0b,hp1b⟩ := hpb
              clear hcb
              have hdb := Hdb.out
              have wr3 := half_next (A := B2) (E1 := E0) (Y := Y) (G := qb) hdb.2 WY.out.2
              obtain ⟨R3,hR3⟩ : ∃ R3,B2 * 4294967296 + E0 - qb * Y = R3 := ⟨_,rfl⟩
              rw [hR3] at wr3
              have fin := half_final p2.out HU.out HYv.out DE.out HB2.out hR3 (by have := hdb.2; omega) (by have := hdb.2; omega)
              rw [← HG1.out] at fin
              have wq1 := fin.1.symm
              have wq : IntKind.u64.wrap (IntKind.u64.wrap ((qa - 1) * 4294967296) + qb) = (hi * 18446744073709551616 + lo) / y := by
                have := hdb.1; have := bG.out; have := HG1.out; rw [fin.1]; simp only [IntKind.wrap_u64]; omega
              have wq2 : IntKind.u64.wrap ((hi * 18446744073709551616 + lo) / y) = (hi * 18446744073709551616 + lo) / y := by
                have := hdb.1; have := bG.out; have := HG1.out; rw [fin.1]; simp only [IntKind.wrap_u64]; omega
              have wr : R3 / 2 ^ S = (hi * 18446744073709551616 + lo) % y := fin.2
              clear fin hdb hR3
              go_wp2_with fail
              go_ret2
              exact ⟨rfl,rfl⟩
        · have hc2a : 4294967296 * ra + E1 < qa * Y0 := by omega
          have hpa : 0 ≤ qa * Y0 ∧ qa * Y0 < 18446744073709551616 := half_bd b0a (by omega) (by omega) (by omega)
          obtain ⟨Pa,hPa⟩ : ∃ P,qa * Y0 = P := ⟨_,rfl⟩
          rw [hPa] at hc2a hpa
          obtain ⟨hp0a,hp1a⟩ := hpa
          clear hca
          have hda := Sxa.out.done (by have := BE.out; omega) (by omega) (by omega) (by have := DY.out; have := Hb.out; omega) (.inr ⟨by omega,hbra⟩)
          rw [← DY.out] at hda
          have wr2 := half_next (A := A) (E1 := E1) (Y := Y) (G := (qa - 1)) hda.2 WY.out.2
          obtain ⟨G1,hG1⟩ : ∃ G1,(qa - 1) = G1 := ⟨_,rfl⟩
          obtain ⟨B2,hB2⟩ : ∃ B2,A * 4294967296 + E1 - (qa - 1) * Y = B2 := ⟨_,rfl⟩
          rw [hB2] at wr2
          have hb2 : 0 ≤ B2 ∧ B2 < Y := by have := hda.2; omega
          have HB2 : Hid (A * 4294967296 + E1 - G1 * Y = B2) := Lib.hid (by rw [← hG1]; exact hB2)
          have bG : Hid (0 ≤ G1 ∧ G1 < 4294967296) := Lib.hid (by rw [← hG1]; have := hda.1; omega)
          have HG1 := Lib.hid hG1
          have Hb2 := Lib.hid hb2
          have st2 := half_start (E1 := E0) hb2.1 bE0 bY1 bY0 (by have := DY.out; omega)
          have td2 : B2.tdiv Y1 = B2 / Y1 := Int.tdiv_eq_ediv_of_nonneg hb2.1
          obtain ⟨Q2,hQ2⟩ : ∃ Q2,B2 / Y1 = Q2 := ⟨_,rfl⟩
          obtain ⟨R2,hR2⟩ : ∃ R2,B2 % Y1 = R2 := ⟨_,rfl⟩
          rw [hQ2] at td2 st2
          rw [hR2] at st2
          obtain ⟨EQ2,ER2⟩ := half_rest st2 (by have := WY.out.2; omega)
          have St2 := Lib.hid st2
          clear st2 hQ2 hR2 hB2 hda hG1 hb2
          go_wp2_with fail
          go_loop [18,16] (fun q r => ∃ qv rv : Int,q = .int .u64 qv ∧ r = .int .u64 rv ∧ HalfAt B2 E0 Y1 Y0 qv rv ∧ rv < 4294967296) (fun q _ => (intOf q).toNat)
          case atStart => exact ⟨_,_,rfl,rfl,St2.out⟩
          case round =>
            obtain ⟨qb,rb,rfl,rfl,hatb,hrb⟩ := hrel
            obtain ⟨b0b,b1b,r0b,hAb,hUb⟩ := hatb
            have hatb : HalfAt B2 E0 Y1 Y0 qb rb := ⟨b0b,b1b,r0b,hAb,hUb⟩
            have Hatb := Lib.hid hatb
            clear hatb hUb hAb
            have e1b : IntKind.u64.wrap (4294967296 * rb) = 4294967296 * rb := by rw [IntKind.wrap_u64]; omega
            have e2b : IntKind.u64.wrap (4294967296 * rb + E0) = 4294967296 * rb + E0 := by rw [IntKind.wrap_u64]; omega
            by_cases hcb : 4294967296 ≤ qb ∨ 4294967296 * rb + E0 < qb * Y0
            · have stb := Hatb.out.step (by have := BE.out; omega) (by omega) (by omega) hrb (by have := DY.out; have := Hb2.out; omega) hcb
              obtain ⟨stb,hq1b⟩ := stb
              have e4b : IntKind.u64.wrap (rb + Y1) = rb + Y1 := by rw [IntKind.wrap_u64]; omega
              have e5b : IntKind.u64.wrap (qb - 1) = qb - 1 := by rw [IntKind.wrap_u64]; omega
              have Sxb := Lib.hid stb
              clear stb
              by_cases hbrb : 4294967296 ≤ rb + Y1
              · by_cases hgb : 4294967296 ≤ qb
                · clear hcb
                  have hdb := Sxb.out.done (by have := BE.out; omega) (by omega) (by omega) (by have := DY.out; have := Hb2.out; omega) (.inr ⟨by omega,hbrb⟩)
                  rw [← DY.out] at hdb
                  have wr3 := half_next (A := B2) (E1 := E0) (Y := Y) (G := (qb - 1)) hdb.2 WY.out.2
                  obtain ⟨R3,hR3⟩ : ∃ R3,B2 * 4294967296 + E0 - (qb - 1) * Y = R3 := ⟨_,rfl⟩
                  rw [hR3] at wr3
                  have fin := half_final p2.out HU.out HYv.out DE.out HB2.out hR3 (by have := hdb.2; omega) (by have := hdb.2; omega)
                  rw [← HG1.out] at fin
                  have wq1 := fin.1.symm
                  have wq : IntKind.u64.wrap (IntKind.u64.wrap ((qa - 1) * 4294967296) + (qb - 1)) = (hi * 18446744073709551616 + lo) / y := by
                    have := hdb.1; have := bG.out; have := HG1.out; rw [fin.1]; simp only [IntKind.wrap_u64]; omega
                  have wq2 : IntKind.u64.wrap ((hi * 18446744073709551616 + lo) / y) = (hi * 18446744073709551616 + lo) / y := by
                    have := hdb.1; have := bG.out; have := HG1.out; rw [fin.1]; simp only [IntKind.wrap_u64]; omega
                  have wr : R3 / 2 ^ S = (hi * 18446744073709551616 + lo) % y := fin.2
                  clear fin hdb hR3
                  go_wp2_with fail
                  go_ret2
                  exact ⟨rfl,rfl⟩
                · have hc2b : 4294967296 * rb + E0 < qb * Y0 := by omega
                  have hpb : 0 ≤ qb * Y0 ∧ qb * Y0 < 18446744073709551616 := half_bd b0b (by omega) (by omega) (by omega)
                  obtain ⟨Pb,hPb⟩ : ∃ P,qb * Y0 = P := ⟨_,rfl⟩
                  rw [hPb] at hc2b hpb
                  obtain ⟨hp0b,hp1b⟩ := hpb
                  clear hcb
                  have hdb := Sxb.out.done (by have := BE.out; omega) (by omega) (by omega) (by have := DY.out; have := Hb2.out; omega) (.inr ⟨by omega,hbrb⟩)
                  rw [← DY.out] at hdb
                  have wr3 := half_next (A := B2) (E1 := E0) (Y := Y) (G := (qb - 1)) hdb.2 WY.out.2
                  obtain ⟨R3,hR3⟩ : ∃ R3,B2 * 4294967296 + E0 - (qb - 1) * Y = R3 := ⟨_,rfl⟩
                  rw [hR3] at wr3
                  have fin := half_final p2.out HU.out HYv.out DE.out HB2.out hR3 (by have := hdb.2; omega) (by have := hdb.2; omega)
                  rw [← HG1.out] at fin
                  have wq1 := fin.1.symm
                  have wq : IntKind.u64.wrap (IntKind.u64.wrap ((qa - 1) * 4294967296) + (qb - 1)) = (hi * 18446744073709551616 + lo) / y := by
                    have := hdb.1; have := bG.out; have := HG1.out; rw [fin.1]; simp only [IntKind.wrap_u64]; omega
                  have wq2 : IntKind.u64.wrap ((hi * 18446744073709551616 + lo) / y) = (hi * 18446744073709551616 + lo) / y := by
                    have := hdb.1; have := bG.out; have := HG1.out; rw [fin.1]; simp only [IntKind.wrap_u64]; omega
                  have wr : R3 / 2 ^ S = (hi * 18446744073709551616 + lo) % y := fin.2
                  clear fin hdb hR3
                  go_wp2_with fail
                  go_ret2
                  exact ⟨rfl,rfl⟩
              · by_cases hgb : 4294967296 ≤ qb
                · clear hcb
                  go_wp2_with fail
                  exact ⟨⟨_,_,by go_num,by go_num,Sxb.out,by omega⟩,by simp [intOf]; omega⟩
                · have hc2b : 4294967296 * rb + E0 < qb * Y0 := by omega
                  have hpb : 0 ≤ qb * Y0 ∧ qb * Y0 < 18446744073709551616 := half_bd b0b (by omega) (by omega) (by omega)
                  obtain ⟨Pb,hPb⟩ : ∃ P,qb * Y0 = P := ⟨_,rfl⟩
                  rw [hPb] at hc2b hpb
                  obtain ⟨hp0b,hp1b⟩ := hpb
                  clear hcb
                  go_wp2_with fail
                  exact ⟨⟨_,_,by go_num,by go_num,Sxb.out,by omega⟩,by simp [intOf]; omega⟩
            · have hgb : ¬ 4294967296 ≤ qb := by omega
              have hc2b : ¬ 4294967296 * rb + E0 < qb * Y0 := by omega
              have hdb := Hatb.out.done (by have := BE.out; omega) (by omega) (by omega) (by have := DY.out; have := Hb2.out; omega) (.inl ⟨by omega,by omega⟩)
              rw [← DY.out] at hdb
              have Hdb := Lib.hid hdb
              clear hdb
              have hpb : 0 ≤ qb * Y0 ∧ qb * Y0 < 18446744073709551616 := half_bd b0b (by omega) (by omega) (by omega)
              obtain ⟨Pb,hPb⟩ : ∃ P,qb * Y0 = P := ⟨_,rfl⟩
              rw [hPb] at hc2b hpb
              obtain ⟨hp0b,hp1b⟩ := hpb
              clear hcb
              have hdb := Hdb.out
              have wr3 := half_next (A := B2) (E1 := E0) (Y := Y) (G := qb) hdb.2 WY.out.2
              obtain ⟨R3,hR3⟩ : ∃ R3,B2 * 4294967296 + E0 - qb * Y = R3 := ⟨_,rfl⟩
              rw [hR3] at wr3
              have fin := half_final p2.out HU.out HYv.out DE.out HB2.out hR3 (by have := hdb.2; omega) (by have := hdb.2; omega)
              rw [← HG1.out] at fin
              have wq1 := fin.1.symm
              have wq : IntKind.u64.wrap (IntKind.u64.wrap ((qa - 1) * 4294967296) + qb) = (hi * 18446744073709551616 + lo) / y := by
                have := hdb.1; have := bG.out; have := HG1.out; rw [fin.1]; simp only [IntKind.wrap_u64]; omega
              have wq2 : IntKind.u64.wrap ((hi * 18446744073709551616 + lo) / y) = (hi * 18446744073709551616 + lo) / y := by
                have := hdb.1; have := bG.out; have := HG1.out; rw [fin.1]; simp only [IntKind.wrap_u64]; omega
              have wr : R3 / 2 ^ S = (hi * 18446744073709551616 + lo) % y := fin.2
              clear fin hdb hR3
              go_wp2_with fail
              go_ret2
              exact ⟨rfl,rfl⟩
      · by_cases hga : 4294967296 ≤ qa
        · clear hca
          go_wp2_with fail
          exact ⟨⟨_,_,by go_num,by go_num,Sxa.out,by omega⟩,by simp [intOf]; omega⟩
        · have hc2a : 4294967296 * ra + E1 < qa * Y0 := by omega
          have hpa : 0 ≤ qa * Y0 ∧ qa * Y0 < 18446744073709551616 := half_bd b0a (by omega) (by omega) (by omega)
          obtain ⟨Pa,hPa⟩ : ∃ P,qa * Y0 = P := ⟨_,rfl⟩
          rw [hPa] at hc2a hpa
          obtain ⟨hp0a,hp1a⟩ := hpa
          clear hca
          go_wp2_with fail
          exact ⟨⟨_,_,by go_num,by go_num,Sxa.out,by omega⟩,by simp [intOf]; omega⟩
    · have hga : ¬ 4294967296 ≤ qa := by omega
      have hc2a : ¬ 4294967296 * ra + E1 < qa * Y0 := by omega
      have hda := Hata.out.done (by have := BE.out; omega) (by omega) (by omega) (by have := DY.out; have := Hb.out; omega) (.inl ⟨by omega,by omega⟩)
      rw [← DY.out] at hda
      have Hda := Lib.hid hda
      clear hda
      have hpa : 0 ≤ qa * Y0 ∧ qa * Y0 < 18446744073709551616 := half_bd b0a (by omega) (by omega) (by omega)
      obtain ⟨Pa,hPa⟩ : ∃ P,qa * Y0 = P := ⟨_,rfl⟩
      rw [hPa] at hc2a hpa
      obtain ⟨hp0a,hp1a⟩ := hpa
      clear hca
      have hda := Hda.out
      have wr2 := half_next (A := A) (E1 := E1) (Y := Y) (G := qa) hda.2 WY.out.2
      obtain ⟨G1,hG1⟩ : ∃ G1,qa = G1 := ⟨_,rfl⟩
      obtain ⟨B2,hB2⟩ : ∃ B2,A * 4294967296 + E1 - qa * Y = B2 := ⟨_,rfl⟩
      rw [hB2] at wr2
      have hb2 : 0 ≤ B2 ∧ B2 < Y := by have := hda.2; omega
      have HB2 : Hid (A * 4294967296 + E1 - G1 * Y = B2) := Lib.hid (by rw [← hG1]; exact hB2)
      have bG : Hid (0 ≤ G1 ∧ G1 < 4294967296) := Lib.hid (by rw [← hG1]; have := hda.1; omega)
      have HG1 := Lib.hid hG1
      have Hb2 := Lib.hid hb2
      have st2 := half_start (E1 := E0) hb2.1 bE0 bY1 bY0 (by have := DY.out; omega)
      have td2 : B2.tdiv Y1 = B2 / Y1 := Int.tdiv_eq_ediv_of_nonneg hb2.1
      obtain ⟨Q2,hQ2⟩ : ∃ Q2,B2 / Y1 = Q2 := ⟨_,rfl⟩
      obtain ⟨R2,hR2⟩ : ∃ R2,B2 % Y1 = R2 := ⟨_,rfl⟩
      rw [hQ2] at td2 st2
      rw [hR2] at st2
      obtain ⟨EQ2,ER2⟩ := half_rest st2 (by have := WY.out.2; omega)
      have St2 := Lib.hid st2
      clear st2 hQ2 hR2 hB2 hda hG1 hb2
      go_wp2_with fail
      go_loop [18,16] (fun q r => ∃ qv rv : Int,q = .int .u64 qv ∧ r = .int .u64 rv ∧ HalfAt B2 E0 Y1 Y0 qv rv ∧ rv < 4294967296) (fun q _ => (intOf q).toNat)
      case atStart => exact ⟨_,_,rfl,rfl,St2.out⟩
      case round =>
        obtain ⟨qb,rb,rfl,rfl,hatb,hrb⟩ := hrel
        obtain ⟨b0b,b1b,r0b,hAb,hUb⟩ := hatb
        have hatb : HalfAt B2 E0 Y1 Y0 qb rb := ⟨b0b,b1b,r0b,hAb,hUb⟩
        have Hatb := Lib.hid hatb
        clear hatb hUb hAb
        have e1b : IntKind.u64.wrap (4294967296 * rb) = 4294967296 * rb := by rw [IntKind.wrap_u64]; omega
        have e2b : IntKind.u64.wrap (4294967296 * rb + E0) = 4294967296 * rb + E0 := by rw [IntKind.wrap_u64]; omega
        by_cases hcb : 4294967296 ≤ qb ∨ 4294967296 * rb + E0 < qb * Y0
        · have stb := Hatb.out.step (by have := BE.out; omega) (by omega) (by omega) hrb (by have := DY.out; have := Hb2.out; omega) hcb
          obtain ⟨stb,hq1b⟩ := stb
          have e4b : IntKind.u64.wrap (rb + Y1) = rb + Y1 := by rw [IntKind.wrap_u64]; omega
          have e5b : IntKind.u64.wrap (qb - 1) = qb - 1 := by rw [IntKind.wrap_u64]; omega
          have Sxb := Lib.hid stb
          clear stb
          by_cases hbrb : 4294967296 ≤ rb + Y1
          · by_cases hgb : 4294967296 ≤ qb
            · clear hcb
              have hdb := Sxb.out.done (by have := BE.out; omega) (by omega) (by omega) (by have := DY.out; have := Hb2.out; omega) (.inr ⟨by omega,hbrb⟩)
              rw [← DY.out] at hdb
              have wr3 := half_next (A := B2) (E1 := E0) (Y := Y) (G := (qb - 1)) hdb.2 WY.out.2
              obtain ⟨R3,hR3⟩ : ∃ R3,B2 * 4294967296 + E0 - (qb - 1) * Y = R3 := ⟨_,rfl⟩
              rw [hR3] at wr3
              have fin := half_final p2.out HU.out HYv.out DE.out HB2.out hR3 (by have := hdb.2; omega) (by have := hdb.2; omega)
              rw [← HG1.out] at fin
              have wq1 := fin.1.symm
              have wq : IntKind.u64.wrap (IntKind.u64.wrap (qa * 4294967296) + (qb - 1)) = (hi * 18446744073709551616 + lo) / y := by
                have := hdb.1; have := bG.out; have := HG1.out; rw [fin.1]; simp only [IntKind.wrap_u64]; omega
              have wq2 : IntKind.u64.wrap ((hi * 18446744073709551616 + lo) / y) = (hi * 18446744073709551616 + lo) / y := by
                have := hdb.1; have := bG.out; have := HG1.out; rw [fin.1]; simp only [IntKind.wrap_u64]; omega
              have wr : R3 / 2 ^ S = (hi * 18446744073709551616 + lo) % y := fin.2
              clear fin hdb hR3
              go_wp2_with fail
              go_ret2
              exact ⟨rfl,rfl⟩
            · have hc2b : 4294967296 * rb + E0 < qb * Y0 := by omega
              have hpb : 0 ≤ qb * Y0 ∧ qb * Y0 < 18446744073709551616 := half_bd b0b (by omega) (by omega) (by omega)
              obtain ⟨Pb,hPb⟩ : ∃ P,qb * Y0 = P := ⟨_,rfl⟩
              rw [hPb] at hc2b hpb
              obtain ⟨hp0b,hp1b⟩ := hpb
              clear hcb
              have hdb := Sxb.out.done (by have := BE.out; omega) (by omega) (by omega) (by have := DY.out; have := Hb2.out; omega) (.inr ⟨by omega,hbrb⟩)
              rw [← DY.out] at hdb
              have wr3 := half_next (A := B2) (E1 := E0) (Y := Y) (G := (qb - 1)) hdb.2 WY.out.2
              obtain ⟨R3,hR3⟩ : ∃ R3,B2 * 4294967296 + E0 - (qb - 1) * Y = R3 := ⟨_,rfl⟩
              rw [hR3] at wr3
              have fin := half_final p2.out HU.out HYv.out DE.out HB2.out hR3 (by have := hdb.2; omega) (by have := hdb.2; omega)
              rw [← HG1.out] at fin
              have wq1 := fin.1.symm
              have wq : IntKind.u64.wrap (IntKind.u64.wrap (qa * 4294967296) + (qb - 1)) = (hi * 18446744073709551616 + lo) / y := by
                have := hdb.1; have := bG.out; have := HG1.out; rw [fin.1]; simp only [IntKind.wrap_u64]; omega
              have wq2 : IntKind.u64.wrap ((hi * 18446744073709551616 + lo) / y) = (hi * 18446744073709551616 + lo) / y := by
                have := hdb.1; have := bG.out; have := HG1.out; rw [fin.1]; simp only [IntKind.wrap_u64]; omega
              have wr : R3 / 2 ^ S = (hi * 18446744073709551616 + lo) % y := fin.2
              clear fin hdb hR3
              go_wp2_with fail
              go_ret2
              exact ⟨rfl,rfl⟩
          · by_cases hgb : 4294967296 ≤ qb
            · clear hcb
              go_wp2_with fail
              exact ⟨⟨_,_,by go_num,by go_num,Sxb.out,by omega⟩,by simp [intOf]; omega⟩
            · have hc2b : 4294967296 * rb + E0 < qb * Y0 := by omega
              have hpb : 0 ≤ qb * Y0 ∧ qb * Y0 < 18446744073709551616 := half_bd b0b (by omega) (by omega) (by omega)
              obtain ⟨Pb,hPb⟩ : ∃ P,qb * Y0 = P := ⟨_,rfl⟩
              rw [hPb] at hc2b hpb
              obtain ⟨hp0b,hp1b⟩ := hpb
              clear hcb
              go_wp2_with fail
              exact ⟨⟨_,_,by go_num,by go_num,Sxb.out,by omega⟩,by simp [intOf]; omega⟩
        · have hgb : ¬ 4294967296 ≤ qb := by omega
          have hc2b : ¬ 4294967296 * rb + E0 < qb * Y0 := by omega
          have hdb := Hatb.out.done (by have := BE.out; omega) (by omega) (by omega) (by have := DY.out; have := Hb2.out; omega) (.inl ⟨by omega,by omega⟩)
          rw [← DY.out] at hdb
          have Hdb := Lib.hid hdb
          clear hdb
          have hpb : 0 ≤ qb * Y0 ∧ qb * Y0 < 18446744073709551616 := half_bd b0b (by omega) (by omega) (by omega)
          obtain ⟨Pb,hPb⟩ : ∃ P,qb * Y0 = P := ⟨_,rfl⟩
          rw [hPb] at hc2b hpb
          obtain ⟨hp0b,hp1b⟩ := hpb
          clear hcb
          have hdb := Hdb.out
          have wr3 := half_next (A := B2) (E1 := E0) (Y := Y) (G := qb) hdb.2 WY.out.2
          obtain ⟨R3,hR3⟩ : ∃ R3,B2 * 4294967296 + E0 - qb * Y = R3 := ⟨_,rfl⟩
          rw [hR3] at wr3
          have fin := half_final p2.out HU.out HYv.out DE.out HB2.out hR3 (by have := hdb.2; omega) (by have := hdb.2; omega)
          rw [← HG1.out] at fin
          have wq1 := fin.1.symm
          have wq : IntKind.u64.wrap (IntKind.u64.wrap (qa * 4294967296) + qb) = (hi * 18446744073709551616 + lo) / y := by
            have := hdb.1; have := bG.out; have := HG1.out; rw [fin.1]; simp only [IntKind.wrap_u64]; omega
          have wq2 : IntKind.u64.wrap ((hi * 18446744073709551616 + lo) / y) = (hi * 18446744073709551616 + lo) / y := by
            have := hdb.1; have := bG.out; have := HG1.out; rw [fin.1]; simp only [IntKind.wrap_u64]; omega
          have wr : R3 / 2 ^ S = (hi * 18446744073709551616 + lo) % y := fin.2
          clear fin hdb hR3
          go_wp2_with fail
          go_ret2
          exact ⟨rfl,rfl⟩
theorem div64_small (lo y : Int) (hl : Word lo) (hy : Word y) (h0 : y ≠ 0) (w : World) :
    Calls Tryz.prog 76 #[.int .u64 0,.int .u64 lo,.int .u64 y] w fun e w' => e = .returned (.tuple #[.int .u64 (lo / y),.int .u64 (lo % y)]) ∧ ∃ k,w.drewN k = w' := by
  have hy0 : (y == 0) = false := by simpa using h0
  have hyp : ¬ y ≤ 0 := by unfold Word at hy; omega
  have td : lo.tdiv y = lo / y := Int.tdiv_eq_ediv_of_nonneg hl.1
  have tm : lo.tmod y = lo % y := Int.tmod_eq_emod_of_nonneg hl.1
  have b1 : 0 ≤ lo / y := Int.ediv_nonneg hl.1 hy.1
  have b2 : lo / y ≤ lo := Int.ediv_le_self _ hl.1
  have b3 := Int.emod_nonneg lo h0
  have b4 := Int.emod_lt_of_pos lo (show 0 < y by omega)
  have e1 : IntKind.u64.wrap (lo / y) = lo / y := by rw [IntKind.wrap_u64]; unfold Word at hl; omega
  have e2 : IntKind.u64.wrap (lo % y) = lo % y := by rw [IntKind.wrap_u64]; unfold Word at hy; omega
  generalize lo / y = q at td e1 ⊢
  generalize lo % y = r at tm e2 ⊢
  clear b1 b2 b3 b4
  go_enter Tryz.func76,Tryz.ntmps76
  go_wp2_with fail
  go_region
  all_goals
    go_wp2_with fail
    go_ret2
    first | exact ⟨rfl,0,rfl⟩ | exact ⟨rfl,1,rfl⟩
theorem div64_draws (hi lo y : Int) (hh : Word hi) (hl : Word lo) (hy : Word y) (hlt : hi < y) (w : World) :
    Calls Tryz.prog 76 #[.int .u64 hi,.int .u64 lo,.int .u64 y] w fun e w' => e = .returned (.tuple #[.int .u64 ((hi * 18446744073709551616 + lo) / y),.int .u64 ((hi * 18446744073709551616 + lo) % y)]) ∧ ∃ k,w.drewN k = w' := by
  by_cases h0 : hi = 0
  · subst h0
    rw [Int.zero_mul,Int.zero_add]
    exact div64_small lo y hl hy (by omega) w
  · refine (div64_big hi lo y hh hl hy hlt h0 w).mono ?_
    rintro e w' ⟨rfl,rfl⟩
    exact ⟨rfl,0,rfl⟩
theorem div64_any (hi lo y : Int) (hh : Word hi) (hl : Word lo) (hy : Word y) (hlt : hi < y) (w : World) :
    Calls Tryz.prog 76 #[.int .u64 hi,.int .u64 lo,.int .u64 y] w fun e w' => e = .returned (.tuple #[.int .u64 ((hi * 18446744073709551616 + lo) / y),.int .u64 ((hi * 18446744073709551616 + lo) % y)]) ∧ Below w.heap.size w w' := by
  refine (div64_draws hi lo y hh hl hy hlt w).mono ?_
  rintro e w' ⟨rfl,k,rfl⟩
  exact ⟨rfl,below_drewN (Below.refl _ _) _⟩
end Go.Proofs.YtgccgacpifebbaaGreatDoor
