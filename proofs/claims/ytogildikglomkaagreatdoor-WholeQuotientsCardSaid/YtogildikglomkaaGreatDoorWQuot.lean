/- WholeQuotients answers true for every two lists of bytes, every two signs and every number: of the whole numbers that the bytes and signs make (of the second list, as many bytes as the number says) the quotient and what is left are as the document's are; where the second is 0 there is none. Conditions: the tables of the library that the row lists hold what the program's text lays. -/
import Derived.Test.YtogildikglomkaaGreatDoorRowKit
import Derived.Test.YtogildikglomkaaGreatDoorBArg
import Derived.Test.YtogildikglomkaaGreatDoorWQuotW
namespace Go.Proofs.YtogildikglomkaaGreatDoor.wholeQuotients
open Go.ChangeShapes Go.WideShapes Go.ChangeAt Go.RowKit
set_option linter.unusedVariables false

set_option maxRecDepth 100000 in
theorem lifted (os : Go.Os) (started : os.Started) (H : Type) (enc : TypeId × Value → H) :
    ReturnsInHanded {} Tryz.checked os 4 .any (fun w args => (Rows.wholeQuotientsSpec.pre enc Tryz.prog Tryz.f4 Rows.wholeQuotientsRow.domain false w args ∧ laidMetH Tryz.prog Rows.wholeQuotientsRow.laid w) ∧ sizedMet enc Tryz.prog Tryz.f4 (OpenSpec.ofChange Rows.wholeQuotientsSpec) false w args)
      (Rows.wholeQuotientsSpec.post enc Tryz.prog Tryz.f4 false true false false) := by
  refine returnsInHanded_of_change_and (C := Tryz.checked) (X := fun w _ => laidMetH Tryz.prog Rows.wholeQuotientsRow.laid w) (fun _ _ _ hh h => h.of_heap hh) own started (by kernel_rfl) Tryz.func4
    (ChangeSpec.witness_shaped (enc := enc) (C := Tryz.checked) (os := os) (X := fun w _ => laidMetH Tryz.prog Rows.wholeQuotientsRow.laid w) false (World.laidAll Tryz.prog os Rows.wholeQuotientsRow.laid) #[.slice none 0 0, .slice none 0 0, .bool false, .bool false, .int .i64 0] 8 (World.laidAll_os _ _ _)
      (World.shaped_of_ZipB (by kernel_rfl) (by kernel_rfl)) (by kernel_rfl) (by kernel_rfl) (by kernel_rfl)
      (by rw [MakeChecks.laidMetH_plain _ _ _ (by kernel_rfl)]; exact laidMet_laidAll _ (by kernel_rfl) (by kernel_rfl))) ?_
  intro W base args ds gs before hval0 hW hc hsz0 hL _
  have hval : ∀ (j : Nat) t v, Tryz.f4.params[j]? = some t → args[j]? = some v → Value.okWide Tryz.prog W .any base t v := hval0
  have hW' := hW
  obtain ⟨p, q, hA0, hV, rfl, _, _⟩ := hW
  have hA : DataW.TrodAll enc Tryz.prog W 0 (fun _ => true) true Tryz.f4.params.toList args.toList ds p := hA0
  rw [Tryz.params4] at hA hval
  obtain ⟨v0, vs0, d0, ds0, p0, q0, hargs, rfl, rfl, h0, r0⟩ := trodAll_cons hA
  obtain ⟨v1, vs1, d1, ds1, p1, q1, rfl, rfl, rfl, h1, r1⟩ := trodAll_cons r0
  obtain ⟨v2, vs2, d2, ds2, p2, q2, rfl, rfl, rfl, h2, r2⟩ := trodAll_cons r1
  obtain ⟨v3, vs3, d3, ds3, p3, q3, rfl, rfl, rfl, h3, r3⟩ := trodAll_cons r2
  obtain ⟨v4, vs4, d4, ds4, p4, q4, rfl, rfl, rfl, h4, r4⟩ := trodAll_cons r3
  obtain ⟨rfl, rfl, rfl⟩ := trodAll_nil r4
  obtain rfl : args = #[v0, v1, v2, v3, v4] := by cases args; simp_all
  obtain ⟨rfl, rfl⟩ := trodVars_none hV
  obtain ⟨b0, c0⟩ := bytes_arg (hval 0 45 v0 rfl rfl) h0
  obtain ⟨b1, c1⟩ := bytes_arg (hval 1 45 v1 rfl rfl) h1
  obtain ⟨a1, len1, cap1, rfl, hlc, hna, hreach⟩ := bytes_reach (hval 1 45 v1 rfl rfl) h1
  have hcap : cap1 ≤ 140737488355328 := by
    rcases hreach with rfl | ⟨E, S, rfl, hE⟩
    · omega
    · have := sized_slice hsz0 (j := 1) (t := 45) (e := 5) (elems := E) (spare := S) rfl rfl Tryz.underlying45
      rw [show Tryz.checked.prog.bytesOf 5 = 1 from bytes8] at this
      simp only [reachBytes] at this
      omega
  obtain ⟨x2, rfl, rfl, rfl⟩ := open_bool Tryz.underlying4 (hval 2 4 v2 rfl rfl) h2
  obtain ⟨x3, rfl, rfl, rfl⟩ := open_bool Tryz.underlying4 (hval 3 4 v3 rfl rfl) h3
  obtain ⟨x4, rfl, rfl, rfl, wx4⟩ := open_int Tryz.underlying3 (hval 4 3 v4 rfl rfl) h4
  have bx4 : -9223372036854775808 ≤ x4 ∧ x4 ≤ 9223372036854775807 := by simpa [Lit.wf, IntKind.min, IntKind.max, IntKind.bits, IntKind.signed] using wx4
  clear hA0 hval0
  simp only [List.append_nil] at hW'
  have m0 : ∀ x ∈ p0, x.block < W.heap.size := fun x hx => hW'.lt x (by simp [hx])
  have m1 : ∀ x ∈ p1, x.block < W.heap.size := fun x hx => hW'.lt x (by simp [hx])
  refine (wholeQuotients_walk v0 a1 len1 cap1 x2 x3 x4 W b0 b1 hlc hcap hna bx4).mono fun e W' ⟨he, bel⟩ => ?_
  subst he
  exact ⟨_, rfl, _, _, _, [], _, [], hW', trodAll_mk1 (shut_bool Tryz.underlying4 _), (trodAll_cons_mk (bytes_shut h0 c0 m0 bel) (trodAll_cons_mk (bytes_shut h1 c1 m1 bel) (trodAll_cons_mk (shut_bool Tryz.underlying4 x2) (trodAll_cons_mk (shut_bool Tryz.underlying4 x3) (trodAll_cons_mk (shut_int Tryz.underlying3 wx4) trodAll_mk0))))), rfl, bel.frame _, fun h => by cases h⟩

theorem holds : Rows.WholeQuotientsSaid :=
  OpenClaim.holds_of_wide 4 Tryz.f4 rfl rfl rfl rfl rfl rfl rfl ⟨rfl, rfl, rfl, rfl, rfl⟩ rfl rfl rfl rfl rfl (by kernel_rfl) Tryz.func4 (by kernel_rfl)
    (of_decide_eq_true (by kernel_rfl)) (by unfold Func.isWrapper; first | (rw [if_pos (by decide +kernel)]; kernel_rfl) | (rw [if_neg (by decide +kernel)]; exact ⟨rfl, rfl⟩))
    (fun os started H enc _ => lifted os started H enc)
theorem proved : Rows.WholeQuotientsCardSaid :=
  Claim7.holds_tied_plain_at .later [] [.data, .data, .data, .data, .pinned] true (true, "ac375b31aff060b6bb0427130bbb82d8f9186cf4c11abbf8a48c8b14df7a810b") false holds (fun _ h => by cases h) (by kernel_rfl) (fun _ h => by cases h) wholeQuotients_row_tie rfl ⟨rfl, rfl⟩ (by kernel_rfl) rfl
    (fun f fn hf hfn => by
      obtain rfl : f = 4 := Option.some.inj ((show Tryz.prog.funcNamed Tryz.f4.name = some 4 by kernel_rfl).symm.trans hf) |>.symm
      obtain rfl : fn = Tryz.f4 := (Option.some.inj (Tryz.func4.symm.trans hfn)).symm
      exact ⟨by kernel_rfl, fun j t ht => by
        rw [Tryz.params4] at ht
        have hm : t ∈ [45, 45, 4, 4, 3] := by simpa using Array.mem_of_getElem? ht
        have hall : ([45, 45, 4, 4, 3].all fun u => !Tryz.prog.wantsStandIn u) = true := by kernel_rfl
        exact (show Tryz.prog.wantsStandIn t = false by simpa using List.all_eq_true.1 hall t hm)⟩)
    (by kernel_rfl)
#print axioms proved
end Go.Proofs.YtogildikglomkaaGreatDoor.wholeQuotients
