/- Contract of abaculusref1.NatFrom: some number of as many limbs. Contract of abaculushand.Few: at most 48 bytes, in new memory. Contract of NatBytes over whatever number of the document's. -/
import Derived.Test.YtjoppmkknbpjbaaDoorRef0
import Derived.Lib.AppendZeros
import Derived.Deep.LoopGhost
import Derived.Laws.AppendOwnNone
namespace Go.Proofs.YtjoppmkknbpjbaaDoor
open Go.RowKit
set_option linter.unusedVariables false

theorem info32 : (Tryd.prog.info? 75).map (fun i => (i.zero, i.size, i.bytes)) = some (some (.int .u32 0), 1, 4) := by kernel_rfl
theorem or_limb {x y : Int} (hx : Limb x) (hy : Limb y) : Limb (bits .or .u32 x y) := by
  obtain ⟨X, rfl⟩ := Int.eq_ofNat_of_zero_le hx.1
  obtain ⟨Y, rfl⟩ := Int.eq_ofNat_of_zero_le hy.1
  have h1 := hx.2
  have h2 := hy.2
  rw [u32_or_nat X Y (by omega) (by omega)]
  have := Nat.or_lt_two_pow (x := X) (y := Y) (n := 32) (by omega) (by omega)
  exact ⟨by omega, by omega⟩
theorem wrap_limb (x : Int) : Limb (IntKind.u32.wrap x) := by
  rw [IntKind.wrap_u32]; exact ⟨by omega, by omega⟩

end Go.Proofs.YtjoppmkknbpjbaaDoor

namespace Go.Proofs.YtjoppmkknbpjbaaDoor
open Go.RowKit
set_option linter.unusedVariables false

def Bytes8 (l : List Int) : Prop := ∀ x ∈ l, 0 ≤ x ∧ x < 256
/-- At most 48 bytes, in a row of the call's own. -/
def RetFew (w : World) (e : Ending) (w' : World) : Prop := ∃ g n cap l, e = .returned (.slice (some ⟨g, 0, none⟩) n cap) ∧ Arr w' g 5 .u8 l ∧ n ≤ l.length ∧ n ≤ 48 ∧ Bytes8 l ∧ Below w.heap.size w w'
theorem zeroCells_u8 (n : Nat) : Builtin.zeroCells (Value.int .u8 0).cells n = ((List.replicate n (0 : Int)).map (Value.int .u8)).toArray := by
  rw [← Array.toList_inj]
  have h : (Value.int .u8 0).cells = #[Value.int .u8 0] := rfl
  rw [h]
  simp [Builtin.zeroCells, Nat.mod_one]
  exact List.map_const' .. |>.trans (by simp)

end Go.Proofs.YtjoppmkknbpjbaaDoor

namespace Go.Proofs.YtjoppmkknbpjbaaDoor
open Go.RowKit
set_option linter.unusedVariables false

end Go.Proofs.YtjoppmkknbpjbaaDoor
