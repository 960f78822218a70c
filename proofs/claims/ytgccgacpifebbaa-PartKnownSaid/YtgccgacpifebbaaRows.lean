/-
  No cell of these rows narrows 'for every input' (looked for: loops, veiled, ifaces, maps, wideKeys, modest, calm, conditions, laid).
  DERIVED. THE GIVEN ROWS OF THIS SEAT. 4 by the template 'for every input the law returns true; each argument reads behind the call as it read before'; 0 by the template 'total and deterministic' (their statements: YtgccgacpifebbaaTotals.lean).
  GIVEN WITH THE SEED: the statements are not yours to turn. If you find one false, say at which input.
  Laid BY PROGRAM, IN A SANDBOX (cutbox-rows.mjs): the forced cells as the released guide's own fill.sh prints them over the translation 5ef87f042daa2c01… (all of the seat's roots in one cut). By AI agents, Wed Nov 11 2026. No macro, syntax, notation, axiom, sorry.
-/
import Derived.Test.YtgccgacpifebbaaChecked
import GoSem.Claim
import GoSem.ClaimJoined
import GoSem.ClaimMapViews
import Derived.JoinedTies
import Derived.KernelRfl
namespace Go.Proofs.Ytgccgacpifebbaa
/- THE CELL 'sum', in the pinned program and in every row, IS THE sha256 OF THE DUMP (.gsa) THAT YtgccgacpifebbaaProg.lean LOADS. Nothing in Lean hashes anything: it is a label: what it is worth is what the hold of that sum in a sandbox is worth. -/
noncomputable def Try.pinned : Pinned := { name := "ytgccgacpifebbaa", sum := "5ef87f042daa2c0106865b0b9431a33e28744b96b18cf549ebb45f1884e9e1a6", checked := Try.checked }
namespace Rows
def none {H : Type} : Left H := { results := [], args := [] }

/-- 'abaculuslaw8.PartKnown': WHATEVER THE INPUT: true; the input reads as it did. -/
def partKnownSpec : ChangeSpec := { name := "partKnown", fn := fun _ => fun
  | [] => { results := [.lit (.bool true)], args := [] }
  | _ => none }
def partKnownRow : OpenClaim := { program := "ytgccgacpifebbaa", sum := "5ef87f042daa2c0106865b0b9431a33e28744b96b18cf549ebb45f1884e9e1a6", func := "abaculus/abaculuslaw8.PartKnown", spec := "partKnown", unfollowed := true, recurses := true, apart := false }
def PartKnownSaid : Prop := partKnownRow.holds Try.pinned (OpenSpec.ofChange partKnownSpec)

/-- ITS FALSE NEIGHBOUR: 'it returns false'. Refute it at one input. -/
def partKnownWrong : ChangeSpec := { name := "partKnown", fn := fun _ => fun
  | [] => { results := [.lit (.bool false)], args := [] }
  | _ => none }
def PartKnownWrongFalsely : Prop := partKnownRow.holds Try.pinned (OpenSpec.ofChange partKnownWrong)

/-- 'abaculuslaw8.PartTells': WHATEVER THE INPUT: true; the input reads as it did. -/
def partTellsSpec : ChangeSpec := { name := "partTells", fn := fun _ => fun
  | [d1, d2, d3, d4] => { results := [.lit (.bool true)], args := [d1, d2, d3, d4] }
  | _ => none }
def partTellsRow : OpenClaim := { program := "ytgccgacpifebbaa", sum := "5ef87f042daa2c0106865b0b9431a33e28744b96b18cf549ebb45f1884e9e1a6", func := "abaculus/abaculuslaw8.PartTells", spec := "partTells", unfollowed := true, recurses := true, apart := false }
def PartTellsSaid : Prop := partTellsRow.holds Try.pinned (OpenSpec.ofChange partTellsSpec)

/-- ITS FALSE NEIGHBOUR: 'it returns false'. Refute it at one input. -/
def partTellsWrong : ChangeSpec := { name := "partTells", fn := fun _ => fun
  | [d1, d2, d3, d4] => { results := [.lit (.bool false)], args := [d1, d2, d3, d4] }
  | _ => none }
def PartTellsWrongFalsely : Prop := partTellsRow.holds Try.pinned (OpenSpec.ofChange partTellsWrong)

/-- 'abaculuslaw8.PartOnce': WHATEVER THE INPUT: true; the input reads as it did. -/
def partOnceSpec : ChangeSpec := { name := "partOnce", fn := fun _ => fun
  | [d1, d2, d3, d4] => { results := [.lit (.bool true)], args := [d1, d2, d3, d4] }
  | _ => none }
def partOnceRow : OpenClaim := { program := "ytgccgacpifebbaa", sum := "5ef87f042daa2c0106865b0b9431a33e28744b96b18cf549ebb45f1884e9e1a6", func := "abaculus/abaculuslaw8.PartOnce", spec := "partOnce", unfollowed := true, recurses := true, apart := false }
def PartOnceSaid : Prop := partOnceRow.holds Try.pinned (OpenSpec.ofChange partOnceSpec)

/-- ITS FALSE NEIGHBOUR: 'it returns false'. Refute it at one input. -/
def partOnceWrong : ChangeSpec := { name := "partOnce", fn := fun _ => fun
  | [d1, d2, d3, d4] => { results := [.lit (.bool false)], args := [d1, d2, d3, d4] }
  | _ => none }
def PartOnceWrongFalsely : Prop := partOnceRow.holds Try.pinned (OpenSpec.ofChange partOnceWrong)

/-- 'abaculuslaw8.PartBoots': WHATEVER THE INPUT: true; the input reads as it did. -/
def partBootsSpec : ChangeSpec := { name := "partBoots", fn := fun _ => fun
  | [d1, d2] => { results := [.lit (.bool true)], args := [d1, d2] }
  | _ => none }
def partBootsRow : OpenClaim := { program := "ytgccgacpifebbaa", sum := "5ef87f042daa2c0106865b0b9431a33e28744b96b18cf549ebb45f1884e9e1a6", func := "abaculus/abaculuslaw8.PartBoots", spec := "partBoots", unfollowed := true, recurses := true, apart := false }
def PartBootsSaid : Prop := partBootsRow.holds Try.pinned (OpenSpec.ofChange partBootsSpec)

/-- ITS FALSE NEIGHBOUR: 'it returns false'. Refute it at one input. -/
def partBootsWrong : ChangeSpec := { name := "partBoots", fn := fun _ => fun
  | [d1, d2] => { results := [.lit (.bool false)], args := [d1, d2] }
  | _ => none }
def PartBootsWrongFalsely : Prop := partBootsRow.holds Try.pinned (OpenSpec.ofChange partBootsWrong)

/- THE SECOND FORM. 'bulk': how many values and letters a reading holds, each counted each time it is reached (what is shared counts as often as it is met; a slice's spare places count too). A statement '..UptoSaid' is the law's where the arguments, and the package variables that the reading takes, are together of bulk at most 1048576: NARROWER than '..Said'. Prove '..Said' where nothing that the law and all that it calls make is longer than what came in: it says more and counts as full. Else prove '..UptoSaid'. A law counts once. -/
mutual
def uptoBulk {H : Type} : DataW H → Nat
  | .lit (.string bytes) => bytes.length + 1
  | .lit _ => 1
  | .nil => 1
  | .ptr d => uptoBulk d + 1
  | .slice elems spare => uptoBulkAll elems + uptoBulkAll spare + 1
  | .agg parts => uptoBulkAll parts + 1
  | .iface _ d => uptoBulk d + 1
  | .map entries => uptoBulkEntries entries + 1
  | .held _ => 1
def uptoBulkAll {H : Type} : List (DataW H) → Nat
  | [] => 0
  | d :: r => uptoBulk d + uptoBulkAll r
def uptoBulkEntries {H : Type} : List (Lit × DataW H) → Nat
  | [] => 0
  | x :: r => uptoBulkEntry x + uptoBulkEntries r
def uptoBulkEntry {H : Type} : Lit × DataW H → Nat
  | (.string bytes, d) => bytes.length + uptoBulk d + 1
  | (_, d) => uptoBulk d + 1
 end
def uptoSmall : (H : Type) → List (DataW H) → Bool := fun _ ds => decide (uptoBulkAll ds ≤ 1048576)
def OpenSpec.upto (s : _root_.Go.ChangeSpec) : _root_.Go.OpenSpec := { _root_.Go.OpenSpec.ofChange s with cond := some uptoSmall }

/-- 'abaculuslaw8.PartKnown', WHERE WHAT IT READS IS OF BULK AT MOST 1048576: true; the input reads as it did. -/
def partKnownUptoRow : OpenClaim := { program := "ytgccgacpifebbaa", sum := "5ef87f042daa2c0106865b0b9431a33e28744b96b18cf549ebb45f1884e9e1a6", func := "abaculus/abaculuslaw8.PartKnown", spec := "partKnown", unfollowed := true, recurses := true, apart := false, narrowed := true }
def PartKnownUptoSaid : Prop := partKnownUptoRow.holds Try.pinned (OpenSpec.upto partKnownSpec)

/-- 'abaculuslaw8.PartTells', WHERE WHAT IT READS IS OF BULK AT MOST 1048576: true; the input reads as it did. -/
def partTellsUptoRow : OpenClaim := { program := "ytgccgacpifebbaa", sum := "5ef87f042daa2c0106865b0b9431a33e28744b96b18cf549ebb45f1884e9e1a6", func := "abaculus/abaculuslaw8.PartTells", spec := "partTells", unfollowed := true, recurses := true, apart := false, narrowed := true }
def PartTellsUptoSaid : Prop := partTellsUptoRow.holds Try.pinned (OpenSpec.upto partTellsSpec)

/-- 'abaculuslaw8.PartOnce', WHERE WHAT IT READS IS OF BULK AT MOST 1048576: true; the input reads as it did. -/
def partOnceUptoRow : OpenClaim := { program := "ytgccgacpifebbaa", sum := "5ef87f042daa2c0106865b0b9431a33e28744b96b18cf549ebb45f1884e9e1a6", func := "abaculus/abaculuslaw8.PartOnce", spec := "partOnce", unfollowed := true, recurses := true, apart := false, narrowed := true }
def PartOnceUptoSaid : Prop := partOnceUptoRow.holds Try.pinned (OpenSpec.upto partOnceSpec)

/-- 'abaculuslaw8.PartBoots', WHERE WHAT IT READS IS OF BULK AT MOST 1048576: true; the input reads as it did. -/
def partBootsUptoRow : OpenClaim := { program := "ytgccgacpifebbaa", sum := "5ef87f042daa2c0106865b0b9431a33e28744b96b18cf549ebb45f1884e9e1a6", func := "abaculus/abaculuslaw8.PartBoots", spec := "partBoots", unfollowed := true, recurses := true, apart := false, narrowed := true }
def PartBootsUptoSaid : Prop := partBootsUptoRow.holds Try.pinned (OpenSpec.upto partBootsSpec)

end Rows
end Go.Proofs.Ytgccgacpifebbaa
