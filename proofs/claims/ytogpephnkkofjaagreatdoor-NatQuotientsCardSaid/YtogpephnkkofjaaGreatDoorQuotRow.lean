/- NatQuotients answers true for every two lists of bytes and every number: of the numbers that the bytes make (of the second list, as many bytes as the number says) the quotient and what is left are as the document's are; where the second is 0 there is none. Conditions: the tables of the library that the row lists hold what the program's text lays. -/
import Derived.Test.YtogpephnkkofjaaGreatDoorRowKit
import Derived.Test.YtogpephnkkofjaaGreatDoorBArg
import Derived.Test.YtogpephnkkofjaaGreatDoorQuotW
namespace Go.Proofs.YtogpephnkkofjaaGreatDoor.natQuotients
open Go.ChangeShapes Go.WideShapes Go.ChangeAt Go.RowKit
set_option linter.unusedVariables false

set_option maxRecDepth 100000 in
theorem lifted (os : Os) (started : os.Started) (H : Type) (enc : TypeId × Value → H) :
    ReturnsInHanded {} Tryz.checked os 3 .any (fun w args => (Rows.natQuotientsSpec.pre enc Tryz.prog Tryz.f3 Rows.natQuotientsRow.domain false w args ∧ laidMetH Tryz.prog Rows.natQuotientsRow.laid w) ∧ sizedMet enc Tryz.prog Tryz.f3 (OpenSpec.ofChange Rows.natQuotientsSpec) false w args)
      (Rows.natQuotientsSpec.post enc Tryz.prog Tryz.f3 false true false false) := by
  refine returnsInHanded_of_change_and (C := Tryz.checked) (X := fun w _ => laidMetH Tryz.prog Rows.natQuotientsRow.laid w) (fun _ _ _ hh h => h.of_heap hh) own started (by kernel_rfl) Tryz.func3
    (ChangeSpec.witness_shaped (enc := enc) (C := Tryz.checked) (os := os) (X := fun w _ => laidMetH Tryz.prog Rows.natQuotientsRow.laid w) false (World.laidAll Tryz.prog os Rows.natQuotientsRow.laid) #[.slice none 0 0, .slice none 0 0, .int .i64 0] 8 (World.laidAll_os _ _ _)
      (World.shaped_of_ZipB (by kernel_rfl) (by kernel_rfl)) (by kernel_rfl) (by kernel_rfl) (by kernel_rfl)
      (by rw [MakeChecks.laidMetH_plain _ _ _ (by kernel_rfl)]; exact laidMet_laidAll _ (by kernel_rfl) (by kernel_rfl))) ?_
  intro W base args ds gs before hval0 hW hc hsz0 hL _
  have hval : ∀ (j : Nat) t v, Tryz.f3.params[j]? = some t → args[j]? = some v → Value.okWide Tryz.prog W .any base t v := hval0
  have hW' := hW
  obtain ⟨p, q, hA0, hV, rfl, _, _⟩ := hW
  have hA : DataW.TrodAll enc Tryz.prog W 0 (fun _ => true) true Tryz.f3.params.toList args.toList ds p := hA0
  rw [Tryz.params3] at hA hval
  obtain ⟨v0, v1, v2, d0, d1, d2, p0, p1, p2, rfl, rfl, rfl, h0, h1, h2⟩ := trodAll_three hA
  obtain ⟨rfl, rfl⟩ := trodVars_none hV
  obtain ⟨b0, c0⟩ := bytes_arg (hval 0 22 v0 rfl rfl) h0
  obtain ⟨b1, c1⟩ := bytes_arg (hval 1 22 v1 rfl rfl) h1
  obtain ⟨a1, len1, cap1, rfl, hlc, hna, hreach⟩ := bytes_reach (hval 1 22 v1 rfl rfl) h1
  have hcap : cap1 ≤ 140737488355328 := by
    rcases hreach with rfl | ⟨E, S, rfl, hE⟩
    · omega
    · have := sized_slice hsz0 (j := 1) (t := 22) (e := 5) (elems := E) (spare := S) rfl rfl Tryz.underlying22
      rw [show Tryz.checked.prog.bytesOf 5 = 1 from bytes8] at this
      simp only [reachBytes] at this
      omega
  obtain ⟨x2, rfl, rfl, rfl, wx2⟩ := open_int Tryz.underlying3 (hval 2 3 v2 rfl rfl) h2
  have bx2 : -9223372036854775808 ≤ x2 ∧ x2 ≤ 9223372036854775807 := by simpa [Lit.wf, IntKind.min, IntKind.max, IntKind.bits, IntKind.signed] using wx2
  clear hA0 hval0
  simp only [List.append_nil] at hW'
  have m0 : ∀ x ∈ p0, x.block < W.heap.size := fun x hx => hW'.lt x (by simp [hx])
  have m1 : ∀ x ∈ p1, x.block < W.heap.size := fun x hx => hW'.lt x (by simp [hx])
  refine (natQuotients_walk v0 a1 len1 cap1 x2 W b0 b1 hlc hcap hna bx2).mono fun e W' ⟨he, bel⟩ => ?_
  subst he
  exact ⟨_, rfl, _, _, _, [], _, [], hW', trodAll_mk1 (shut_bool Tryz.underlying4 _), trodAll_mk3 (bytes_shut h0 c0 m0 bel) (bytes_shut h1 c1 m1 bel) (shut_int Tryz.underlying3 wx2), rfl, bel.frame _, fun h => by cases h⟩

theorem holds : Rows.NatQuotientsSaid :=
  OpenClaim.holds_of_wide 3 Tryz.f3 rfl rfl rfl rfl rfl rfl rfl ⟨rfl, rfl, rfl, rfl, rfl⟩ rfl rfl rfl rfl rfl (by kernel_rfl) Tryz.func3 (by kernel_rfl)
    (of_decide_eq_true (by kernel_rfl)) (by unfold Func.isWrapper; first | (rw [if_pos (by decide +kernel)]; kernel_rfl) | (rw [if_neg (by decide +kernel)]; exact ⟨rfl, rfl⟩))
    (fun os started H enc _ => lifted os started H enc)
theorem proved : Rows.NatQuotientsCardSaid :=
  Claim7.holds_tied_plain_at .later [] [.data, .data, .data, .data, .pinned] true (true, "6db60b78006beca0887d1dd9a408cf6c8e9b18cc4db0f2c21515889a51b434a6") false holds (fun _ h => by cases h) (by kernel_rfl) (fun _ h => by cases h) natQuotients_row_tie rfl ⟨rfl, rfl⟩ (by kernel_rfl) rfl
    (fun f fn hf hfn => by
      obtain rfl : f = 3 := Option.some.inj ((show Tryz.prog.funcNamed Tryz.f3.name = some 3 by kernel_rfl).symm.trans hf) |>.symm
      obtain rfl : fn = Tryz.f3 := (Option.some.inj (Tryz.func3.symm.trans hfn)).symm
      exact ⟨by kernel_rfl, fun j t ht => by
        rw [Tryz.params3] at ht
        have hm : t ∈ [22, 22, 3] := by simpa using Array.mem_of_getElem? ht
        have hall : ([22, 22, 3].all fun u => !Tryz.prog.wantsStandIn u) = true := by kernel_rfl
        exact (show Tryz.prog.wantsStandIn t = false by simpa using List.all_eq_true.1 hall t hm)⟩)
    (by kernel_rfl)
#print axioms proved
end Go.Proofs.YtogpephnkkofjaaGreatDoor.natQuotients
