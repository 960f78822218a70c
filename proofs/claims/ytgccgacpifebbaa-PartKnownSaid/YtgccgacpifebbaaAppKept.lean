/- append to a row of the call's own, and what it leaves alone. -/
import Derived.Test.YtgccgacpifebbaaApp
namespace Go.Proofs.Ytgccgacpifebbaa
open Go.RowKit
set_option linter.unusedVariables false

theorem setCells_kept (b : Nat) : ∀ (vs : List Value) (o : Nat) (w : World), w.grownBy (w.setCells b o vs) (some b)
  | [], _, w => World.grownBy.refl w _
  | v :: r, o, w => by
    have h := setCells_kept b r (o + 1) (w.setCell ⟨b, o, none⟩ v)
    have hs := Below.setCell (Below.refl 0 w) (p := ⟨b, o, none⟩) (Nat.zero_le b) v
    refine ⟨h.os.trans hs.os, h.tape.trans hs.tape, h.output.trans hs.output, Nat.le_trans hs.size h.size, fun q hq hne => ?_⟩
    exact (h.block q (Nat.lt_of_lt_of_le hq hs.size) hne).trans (heap_setCell_other w ⟨b, o, none⟩ q v (fun e => hne (by rw [e])))
/-- From v to v' nothing was turned but v's own block; v' lies in v's block, or in a new one. -/
def Keeps (v v' : Value) (w w' : World) : Prop := w.heap.size ≤ w'.heap.size ∧ (∀ q, q < w.heap.size → (∀ l c, v ≠ .slice (some ⟨q, 0, none⟩) l c) → w'.heap[q]? = w.heap[q]?) ∧ (∀ b l c, v' = .slice (some ⟨b, 0, none⟩) l c → w.heap.size ≤ b ∨ ∃ l c, v = .slice (some ⟨b, 0, none⟩) l c)
theorem Keeps.trans {v v1 v2 : Value} {w w1 w2 : World} (h : Keeps v v1 w w1) (g : Keeps v1 v2 w1 w2) : Keeps v v2 w w2 := by
  refine ⟨Nat.le_trans h.1 g.1, fun q hq hv => ?_, fun b l c hb => ?_⟩
  · rw [g.2.1 q (Nat.lt_of_lt_of_le hq h.1) (fun l c e => ?_), h.2.1 q hq hv]
    rcases h.2.2 q l c e with k | ⟨l, c, k⟩
    · exact absurd hq (Nat.not_lt.2 k)
    · exact hv l c k
  · rcases g.2.2 b l c hb with k | ⟨l, c, k⟩
    · exact .inl (Nat.le_trans h.1 k)
    · exact h.2.2 b l c k
theorem Keeps.below {v : Value} {w w' : World} (h : Below w.heap.size w w') : Keeps v v w w' := ⟨h.size, fun q hq _ => h.block q hq, fun b l c e => .inr ⟨l, c, e⟩⟩
/-- append of some integers to a row of the call's own: all other blocks stay as they were. -/
theorem app_kept {P : Program} {k : IntKind} {t tx e : TypeId} {bytes : Nat} (ty : TypeId) (hu : P.underlying t = some (.slice e)) (hinfo : (P.info? e).map (fun i => (i.zero, i.size, i.bytes)) = some (some (.int k 0), 1, bytes)) (hby : bytes ≤ 8)
    {w : World} {B : Nat} {v x : Value} {xs ys : List Int} (hB : B ≤ w.heap.size) (h : Own w B k e v xs) (hs : Src P 1 tx x ys.length (ys.map (Value.int k)) w) (hy : 1 ≤ ys.length) (hm : xs.length + ys.length ≤ 4294967296) :
    ∃ v' w' row, (Builtin.append_ #[t, tx] ty #[v, x]).run P w = .ok v' w' ∧ Own w' B k e v' (xs ++ ys) ∧ Below B w w' ∧ w.grownBy w' row ∧ (∀ r, row = some r → ∃ l c, v = .slice (some ⟨r, 0, none⟩) l c) ∧ Keeps v v' w w' := by
  obtain ⟨i, hi, hz, hsz, hb⟩ := info_parts hinfo
  have hg : ∀ (base : Option Addr) (cap : Nat) (hcap : cap < xs.length + ys.length) (hold : (Builtin.firstCells i.size xs.length (.slice base xs.length cap)).run P w.drew = .ok (xs.map (Value.int k)).toArray w.drew),
      ∃ v' w', (Builtin.append_ #[t, tx] ty #[.slice base xs.length cap, x]).run P w = .ok v' w' ∧ Own w' B k e v' (xs ++ ys) ∧ Below B w w' ∧ w.grownBy w' none ∧ Keeps (.slice base xs.length cap) v' w w' := by
    intro base cap hcap hold
    have hr := run_append_grow_src (P := P) w t tx ty e i _ hu hi hz base xs.length cap (xs.map (Value.int k)) hold x ys.length (ys.map (Value.int k)) (by rw [hsz]; exact hs) hcap (by omega) (growslice_fits hcap (by rw [hb]; have := Nat.mul_le_mul_left (xs.length + ys.length) hby; omega))
    rw [zeroCells_int] at hr
    have hge := grownCap_ge w (xs.length + ys.length) cap e
    generalize grownCap w (xs.length + ys.length) cap e = c at hr hge
    have e0 : ((xs.map (Value.int k)) ++ (ys.map (Value.int k))).toArray ++ ((List.replicate (c - (xs.length + ys.length)) (0 : Int)).map (Value.int k)).toArray = (((xs ++ ys) ++ List.replicate (c - (xs.length + ys.length)) 0).map (Value.int k)).toArray := by simp
    rw [e0] at hr
    refine ⟨_, _, hr, .inr ⟨w.heap.size, c - (xs.length + ys.length), by rw [List.length_append]; congr 1; omega, Arr.new w.drew e k _ _ rfl, hB⟩, (Below.refl B w).drew.alloc hB _, ?_⟩
    have hg := ((Below.refl w.heap.size w).drew.alloc (Nat.le_refl _) (.cells ((((xs ++ ys) ++ List.replicate (c - (xs.length + ys.length)) 0).map (Value.int k)).toArray) e))
    exact ⟨⟨hg.os, hg.tape, hg.output, hg.size, fun q hq _ => hg.block q hq⟩, hg.size, fun q hq _ => hg.block q hq, fun b l c e => .inl (by simp only [Value.slice.injEq, Option.some.injEq, Addr.mk.injEq] at e; omega)⟩
  rcases h with ⟨rfl, rfl⟩ | ⟨b, z, rfl, ha, hb⟩
  · obtain ⟨v', w', h1, h2, h3, h4, h5⟩ := hg none 0 (by simp; omega) (run_firstCells_none w.drew i.size 0 0 0)
    exact ⟨v', w', none, h1, h2, h3, h4, (fun r hr => by cases hr), h5⟩
  · by_cases hroom : xs.length + ys.length ≤ xs.length + z
    · have hr := run_append_room_src (P := P) w t tx ty e i hu hi b 0 xs.length (xs.length + z) x ys.length (ys.map (Value.int k)) (by rw [hsz]; exact hs) hroom
        (fun j hj => by rw [hsz, ha.cell _ (by simp at hj ⊢; omega)]; rfl) (fun j hj => ha.free _)
      rw [hsz, Nat.zero_add, Nat.mul_one] at hr
      have h1 := setCells_arr b e k ys xs.length w _ ha (by simp; omega)
      rw [List.take_left, List.drop_append, List.drop_of_length_le (by omega), List.nil_append, Nat.add_sub_cancel_left, List.drop_replicate, ← List.append_assoc] at h1
      exact ⟨_, _, some b, hr, .inr ⟨b, z - ys.length, by rw [List.length_append]; congr 1; omega, h1, hb⟩, setCells_below b B hb _ _ _ _ (Below.refl B w), setCells_kept b _ _ _, (fun r hr => by cases hr; exact ⟨_, _, rfl⟩), (setCells_kept b _ _ _).size, (fun q hq hv => (setCells_kept b _ _ _).block q hq (fun e => by cases e; exact hv _ _ rfl)), fun b' l c e => .inr (by cases e; exact ⟨_, _, rfl⟩)⟩
    · suffices hold : _ by
        obtain ⟨v', w', h1, h2, h3, h4, h5⟩ := hg _ (xs.length + z) (by omega) hold
        exact ⟨v', w', none, h1, h2, h3, h4, (fun r hr => by cases hr), h5⟩
      refine run_firstCells_some (P := P) w.drew i.size xs.length _ _ _ _ (by rw [hsz]; simp) (fun j u hj => ?_)
      have hjn : j < xs.length := by
        have := (List.getElem?_eq_some_iff.1 hj).1
        simpa using this
      have hadd : (⟨b, 0, none⟩ : Addr).add j = ⟨b, j, none⟩ := by unfold Addr.add; split <;> simp_all
      have hx : (xs ++ List.replicate z 0).getD j 0 = xs.getD j 0 := by simp [List.getD_eq_getElem?_getD, List.getElem?_append_left hjn]
      rw [hadd, ha.drew.cell j (by simp; omega), hx, ← hj, List.getElem?_map, List.getElem?_eq_getElem hjn]
      simp [List.getD_eq_getElem?_getD, List.getElem?_eq_getElem hjn]
end Go.Proofs.Ytgccgacpifebbaa
