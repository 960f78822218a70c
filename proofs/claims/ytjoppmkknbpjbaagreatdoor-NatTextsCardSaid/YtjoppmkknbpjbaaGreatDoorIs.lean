/- Contract of abaculuslaw1.is: two numbers that are one have the same bytes. -/
import Derived.Test.YtjoppmkknbpjbaaGreatDoorBytes
import Derived.Laws.BytesString
namespace Go.Proofs.YtjoppmkknbpjbaaGreatDoor
open Go.RowKit
set_option linter.unusedVariables false

/-- The text of these bytes. -/
def strOf (l : List Int) : ByteArray := l.foldl (fun r n => r.push (UInt8.ofNat n.toNat)) ByteArray.empty
theorem conv_arr {w : World} {b : Nat} {t : TypeId} {l : List Int} {m cap : Nat} (ha : Arr w b t .u8 l) (hm : m = l.length) :
    (convert 22 9 (.slice (some ⟨b, 0, none⟩) m cap)).run Tryz.prog w = .ok (.string (strOf l)) w := by
  subst hm
  rw [run_convert_bytes_string w _ _ _ _ _ _ Tryz.underlying22 Tryz.underlying5 Tryz.underlying9]
  have hl := run_loadCells_list (P := Tryz.prog) w ⟨b, 0, none⟩ (l.map (Value.int .u8)) (fun j v hj => by
    have hj' : j < l.length := by
      have := (List.getElem?_eq_some_iff.1 hj).1
      simpa using this
    have hadd : (⟨b, 0, none⟩ : Addr).add j = ⟨b, j, none⟩ := by unfold Addr.add; split <;> simp_all
    rw [hadd, ha.cell j hj']
    simp [List.getElem?_eq_getElem hj'] at hj
    rw [← hj, List.getD_eq_getElem?_getD, List.getElem?_eq_getElem hj']
    rfl)
  rw [List.length_map] at hl
  exact run_bytesToString w ⟨b, 0, none⟩ l.length cap l hl

set_option maxRecDepth 100000 in
set_option maxHeartbeats 2000000 in
theorem is_true (K : Nat) (hK : K ≤ 4294967296) (v : Value) (n : Int) (hn : n < pw K) (sp : Option Addr) (len cap : Nat) (w : World) (h : IsNat w v n)
    (nb : ∀ w', Below w.heap.size w w' → Calls Tryz.prog 29 #[.slice sp len cap] w' (RetBytes n w')) :
    Calls Tryz.prog 8 #[v, .slice sp len cap] w fun e w' => e = .returned (.bool true) ∧ Below w.heap.size w w' := by
  obtain ⟨xa, xp, xl, xc, rfl⟩ := h.shape
  have hb := fun w' (g : Below w.heap.size w w') => bytes_any K hK (.agg #[.int .u64 xa, .slice xp xl xc]) n w' (h.below g) hn
  have Nb := Lib.hid nb
  have Hb := Lib.hid hb
  clear nb hb h hK hn
  go_enter Tryz.func8, Tryz.ntmps8
  go_wp2_with fail
  have v0 := Var.new w w.heap.size (.int .u64 xa) xp xl xc rfl
  have z0 := v0.lt
  obtain ⟨W, hW⟩ : ∃ W, w.alloc (.cells #[.int .u64 xa, .slice xp xl xc] 26) = W := ⟨_, rfl⟩
  have hBW : Below w.heap.size w W := by rw [← hW]; go_grown
  rw [hW] at v0 z0 ⊢
  clear hW
  have acc := Below.refl W.heap.size W
  have c0 := v0.c0
  have c1 := v0.c1
  go_region_with (first | (go_at_call 15; refine (Hb.out _ (by first | exact hBW.trans (acc.mono hBW.size) | exact (hBW.trans (acc.mono hBW.size)).drew)).mono ?_; rintro e w3 ⟨b1, k1, m1, rfl, hk1, hm1, ha1, hs1, hb3⟩; (first | replace acc := below_acc acc acc.size hb3 | replace acc := below_accD acc acc.size hb3); have Hm1 := Lib.hid hm1; clear hm1; have cv1 := conv_arr (cap := m1) ha1 (be_length n m1).symm) | (go_at_call 29; refine (Nb.out _ (by first | exact hBW.trans (acc.mono hBW.size) | exact (hBW.trans (acc.mono hBW.size)).drew)).mono ?_; rintro e w4 ⟨b2, k2, m2, rfl, hk2, hm2, ha2, hs2, hb4⟩; (first | replace acc := below_acc acc acc.size hb4 | replace acc := below_accD acc acc.size hb4); have Hm2 := Lib.hid hm2; clear hm2; (first | replace ha1 := ha1.below hb4 ha1.lt | replace ha1 := ha1.drew.below hb4 ha1.lt); have cv1 := conv_arr (cap := m1) ha1 (be_length n m1).symm; have cv2 := conv_arr (cap := m2) ha2 (be_length n m2).symm))
  all_goals
    have hm : m1 = m2 := by rw [Hm1.out, Hm2.out, hk1.unique hk2]
    subst hm
    go_wp2
    go_ret
    exact ⟨by simp [Act.put], hBW.trans (acc.mono hBW.size)⟩
end Go.Proofs.YtjoppmkknbpjbaaGreatDoor
