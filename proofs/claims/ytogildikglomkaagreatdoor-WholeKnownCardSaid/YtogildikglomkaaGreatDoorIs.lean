/- Contract of abaculuslaw1.is: two numbers that are one have the same bytes. -/
import Derived.Test.YtogildikglomkaaGreatDoorBytes
import Derived.Laws.BytesString
namespace Go.Proofs.YtogildikglomkaaGreatDoor
open Go.RowKit
set_option linter.unusedVariables false

/-- The text of these bytes. -/
def strOf (l : List Int) : ByteArray := l.foldl (fun r n => r.push (UInt8.ofNat n.toNat)) ByteArray.empty
theorem conv_arr {w : World} {b : Nat} {t : TypeId} {l : List Int} {m cap : Nat} (ha : Arr w b t .u8 l) (hm : m = l.length) :
    (convert 45 9 (.slice (some ⟨b,0,none⟩) m cap)).run Tryz.prog w = .ok (.string (strOf l)) w := by
  subst hm
  rw [run_convert_bytes_string w _ _ _ _ _ _ Tryz.underlying45 Tryz.underlying5 Tryz.underlying9]
  have hl := run_loadCells_list (P := Tryz.prog) w ⟨b,0,none⟩ (l.map (Value.int .u8)) (fun j v hj => by
    have hj' : j < l.length := by
      have := (List.getElem?_eq_some_iff.1 hj).1
      simpa using this
    have hadd : (⟨b,0,none⟩ : Addr).add j = ⟨b,j,none⟩ := by unfold Addr.add; split <;> simp_all
    rw [hadd,ha.cell j hj']
    simp [List.getElem?_eq_getElem hj'] at hj
    rw [← hj,List.getD_eq_getElem?_getD,List.getElem?_eq_getElem hj']
    rfl)
  rw [List.length_map] at hl
  exact run_bytesToString w ⟨b,0,none⟩ l.length cap l hl

end Go.Proofs.YtogildikglomkaaGreatDoor
