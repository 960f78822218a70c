/- OctetSeals: any record's bytes, and what any bytes begin with, are as the document says. No card. Conditions: the tables of the library that the row lists hold what the program's text lays. -/
import Derived.Test.YtkggglhnhlclmaaOctSealsW
import Derived.Test.YtkggglhnhlclmaaOctArg
import Derived.Test.YtkggglhnhlclmaaOctReach
import Derived.Test.YtkggglhnhlclmaaRows
namespace Go.Proofs.Ytkggglhnhlclmaa.octetSeals
open Go.ChangeShapes Go.WideShapes Go.ChangeAt Go.RowKit
set_option linter.unusedVariables false

set_option maxRecDepth 100000 in
theorem lifted (os : Os) (started : os.Started) (H : Type) (enc : TypeId × Value → H) :
    ReturnsInHanded {} Try.checked os 3 .any (fun w args => (Rows.octetSealsSpec.pre enc Try.prog Try.f3 Rows.octetSealsRow.domain false w args ∧ True) ∧ sizedMet enc Try.prog Try.f3 (OpenSpec.ofChange Rows.octetSealsSpec) false w args)
      (Rows.octetSealsSpec.post enc Try.prog Try.f3 false true false false) := by
  refine returnsInHanded_of_change_and (C := Try.checked) (X := fun _ _ => True) (fun _ _ _ _ h => h) own4 started (by kernel_rfl) Try.func3
    (ChangeSpec.witness_shaped (enc := enc) (C := Try.checked) (os := os) (X := fun _ _ => True) false (World.laidAll Try.prog os Rows.octetSealsRow.laid) #[.int .i64 0, .slice none 0 0, .slice none 0 0, .slice none 0 0, .int .i64 0, .int .i64 0, .int .u8 0] 8 (World.laidAll_os _ _ _)
      (World.shaped_of_ZipB (by kernel_rfl) (by kernel_rfl)) (by kernel_rfl) (by kernel_rfl) (by kernel_rfl)
      trivial) ?_
  intro W base args ds gs before hval0 hW hc hsz0 hL _
  have hval : ∀ (j : Nat) t v, Try.f3.params[j]? = some t → args[j]? = some v → Value.okWide Try.prog W .any base t v := hval0
  have hW' := hW
  obtain ⟨p, q, hA0, hV, rfl, _, _⟩ := hW
  have hA : DataW.TrodAll enc Try.prog W 0 (fun _ => true) true Try.f3.params.toList args.toList ds p := hA0
  rw [Try.params3] at hA hval
  obtain ⟨v0, vs0, d0, ds0, p0, q0, hargs, rfl, rfl, h0, r0⟩ := trodAll_cons hA
  obtain ⟨v1, vs1, d1, ds1, p1, q1, rfl, rfl, rfl, h1, r1⟩ := trodAll_cons r0
  obtain ⟨v2, vs2, d2, ds2, p2, q2, rfl, rfl, rfl, h2, r2⟩ := trodAll_cons r1
  obtain ⟨v3, vs3, d3, ds3, p3, q3, rfl, rfl, rfl, h3, r3⟩ := trodAll_cons r2
  obtain ⟨v4, vs4, d4, ds4, p4, q4, rfl, rfl, rfl, h4, r4⟩ := trodAll_cons r3
  obtain ⟨v5, vs5, d5, ds5, p5, q5, rfl, rfl, rfl, h5, r5⟩ := trodAll_cons r4
  obtain ⟨v6, vs6, d6, ds6, p6, q6, rfl, rfl, rfl, h6, r6⟩ := trodAll_cons r5
  obtain ⟨rfl, rfl, rfl⟩ := trodAll_nil r6
  obtain rfl : args = #[v0, v1, v2, v3, v4, v5, v6] := by cases args; simp_all
  obtain ⟨rfl, rfl⟩ := trodVars_none hV
  obtain ⟨x0, rfl, rfl, rfl, wx0⟩ := open_int Try.underlying3 (hval 0 3 v0 rfl rfl) h0
  have bx0 : -9223372036854775808 ≤ x0 ∧ x0 ≤ 9223372036854775807 := by simpa [Lit.wf, IntKind.min, IntKind.max, IntKind.bits, IntKind.signed] using wx0
  obtain ⟨b1, c1⟩ := octs_arg (hval 1 22 v1 rfl rfl) h1
  obtain ⟨b2, c2⟩ := octs_arg (hval 2 22 v2 rfl rfl) h2
  obtain ⟨b3, c3⟩ := octs_arg (hval 3 22 v3 rfl rfl) h3
  have b3' : ∃ l, Bs W v3 l ∧ l.length ≤ 140737488355328 := by
    obtain ⟨a3, len3, cap3, e3, hlc3, _, hreach3⟩ := octs_reach (hval 3 22 v3 rfl rfl) h3
    have hcap : cap3 ≤ 140737488355328 := by
      rcases hreach3 with rfl | ⟨E, S, rfl, hE⟩
      · omega
      · have := sized_slice hsz0 (j := 3) (t := 22) (e := 5) (elems := E) (spare := S) rfl rfl Try.underlying22
        rw [show Try.checked.prog.bytesOf 5 = 1 from bytes8o] at this
        simp only [reachBytes] at this
        omega
    obtain ⟨l, hb⟩ := b3
    obtain ⟨p, c, hv, hl, _⟩ := hb
    refine ⟨l, ⟨p, c, hv, hl, ‹_›⟩, ?_⟩
    rw [e3] at hv
    simp only [Value.slice.injEq] at hv
    omega
  obtain ⟨x4, rfl, rfl, rfl, wx4⟩ := open_int Try.underlying3 (hval 4 3 v4 rfl rfl) h4
  have bx4 : -9223372036854775808 ≤ x4 ∧ x4 ≤ 9223372036854775807 := by simpa [Lit.wf, IntKind.min, IntKind.max, IntKind.bits, IntKind.signed] using wx4
  obtain ⟨x5, rfl, rfl, rfl, wx5⟩ := open_int Try.underlying3 (hval 5 3 v5 rfl rfl) h5
  have bx5 : -9223372036854775808 ≤ x5 ∧ x5 ≤ 9223372036854775807 := by simpa [Lit.wf, IntKind.min, IntKind.max, IntKind.bits, IntKind.signed] using wx5
  obtain ⟨x6, rfl, rfl, rfl, wx6⟩ := open_int Try.underlying5 (hval 6 5 v6 rfl rfl) h6
  have bx6 : 0 ≤ x6 ∧ x6 < 256 := by
    have h : 0 ≤ x6 ∧ x6 ≤ 255 := by simpa [Lit.wf, IntKind.min, IntKind.max, IntKind.bits, IntKind.signed] using wx6
    exact ⟨h.1, by omega⟩
  clear hA0 hval0
  simp only [List.append_nil, List.nil_append] at hW'
  have m1 : ∀ x ∈ p1, x.block < W.heap.size := fun x hx => hW'.lt x (by simp [hx])
  have m2 : ∀ x ∈ p2, x.block < W.heap.size := fun x hx => hW'.lt x (by simp [hx])
  have m3 : ∀ x ∈ p3, x.block < W.heap.size := fun x hx => hW'.lt x (by simp [hx])
  refine (octetSeals_walk x0 v1 v2 v3 x4 x5 x6 W bx0 b1 b2 b3' bx4 bx5 bx6).mono fun e W' ⟨he, bel⟩ => ?_
  subst he
  exact ⟨_, rfl, _, _, _, [], _, [], hW', trodAll_mk1 (shut_bool Try.underlying4 _), (trodAll_cons_mk (shut_int Try.underlying3 wx0) (trodAll_cons_mk (octs_shut h1 c1 m1 bel) (trodAll_cons_mk (octs_shut h2 c2 m2 bel) (trodAll_cons_mk (octs_shut h3 c3 m3 bel) (trodAll_cons_mk (shut_int Try.underlying3 wx4) (trodAll_cons_mk (shut_int Try.underlying3 wx5) (trodAll_cons_mk (shut_int Try.underlying5 wx6) trodAll_mk0))))))), rfl, bel.frame _, fun h => by cases h⟩

theorem holds : Rows.OctetSealsSaid :=
  OpenClaim.holds_of_wide 3 Try.f3 rfl rfl rfl rfl rfl rfl rfl ⟨rfl, rfl, rfl, rfl, rfl⟩ rfl rfl rfl rfl rfl (by kernel_rfl) Try.func3 (by kernel_rfl)
    (of_decide_eq_true (by kernel_rfl)) (by unfold Func.isWrapper; first | (rw [if_pos (by decide +kernel)]; kernel_rfl) | (rw [if_neg (by decide +kernel)]; exact ⟨rfl, rfl⟩))
    (fun os started H enc _ => by have h := lifted os started H enc; simp only [and_true] at h; exact h)
#print axioms holds
end Go.Proofs.Ytkggglhnhlclmaa.octetSeals
