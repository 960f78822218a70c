/- Contract of the document's NatParse. -/
import Derived.Test.YtjoppmkknbpjbaaDoorRefPow
import Derived.Test.YtjoppmkknbpjbaaDoorKnown
import Derived.Test.YtjoppmkknbpjbaaDoorBack
import Derived.Deep.LoopGhost
namespace Go.Proofs.YtjoppmkknbpjbaaDoor
open Go.RowKit
set_option linter.unusedVariables false

/-- The digit at k. -/
def dg (s : ByteArray) (k : Nat) : Int := if h : k < s.size then (s[k].toNat : Int) - 48 else 0
theorem dg_eq {s : ByteArray} {k : Nat} (h : k < s.size) : dg s k = (s[k].toNat : Int) - 48 := dif_pos h
/-- The number of the first k digits. -/
def decTo (s : ByteArray) : Nat → Int
  | 0 => 0
  | k + 1 => decTo s k * 10 + dg s k
/-- A digit. -/
def Dig (x : Int) : Prop := 0 ≤ x ∧ x ≤ 9
/-- A number's text. -/
def IsDec (s : ByteArray) : Prop := 1 ≤ s.size ∧ s.size ≤ 200 ∧ (∀ k, k < s.size → Dig (dg s k)) ∧ (s.size = 1 ∨ dg s 0 ≠ 0)
theorem decTo_bd {s : ByteArray} : ∀ {k : Nat}, (∀ j, j < k → Dig (dg s j)) → 0 ≤ decTo s k ∧ decTo s k < lpw k
  | 0, _ => by simp [decTo, lpw]
  | k + 1, h => by
    obtain ⟨h1, h2⟩ := decTo_bd (s := s) (k := k) (fun j hj => h j (by omega))
    obtain ⟨h3, h4⟩ := h k (by omega)
    simp only [decTo, lpw]
    constructor <;> omega
theorem num_nil (w : World) : IsNum w (.slice none 0 0) 0 := ⟨[], .inl ⟨rfl, rfl⟩, fun h => absurd rfl h, rfl⟩
theorem num_ten (W : World) : IsNum (W.alloc (.cells #[.int .u32 10] 75)) (.slice (some ⟨W.heap.size, 0, none⟩) 1 1) 10 := by
  have := isNum_arr (len := 1) (cap := 1) (Arr.new W 75 .u32 [10] W.heap.size rfl) (by simp) (by omega) (fun x hx => by simp at hx; subst hx; exact ⟨by decide, by decide⟩) (fun _ => by decide)
  simpa [lval] using this
/-- What NatParse answers. -/
def RetParse (s : ByteArray) (w : World) (e : Ending) (w' : World) : Prop := (IsDec s ∧ ∃ v, e = .returned (.tuple #[v, .bool true]) ∧ IsNum w' v (decTo s s.size) ∧ Below w.heap.size w w') ∨ (¬ IsDec s ∧ e = .returned (.tuple #[.slice none 0 0, .bool false]) ∧ Below w.heap.size w w')

end Go.Proofs.YtjoppmkknbpjbaaDoor
