/- Laws: what append makes of a row of integers that the call owns,spare room and all. -/
import Derived.Test.YtgccgacpifebbaaNat0
import Derived.Deep.AppendSrc
import Derived.Lib.AppendZeros
import Derived.Laws.IdiomCopy
namespace Go.Proofs.Ytgccgacpifebbaa
open Go.RowKit
set_option linter.unusedVariables false

/-- The slice v holds xs,in a block from B on (or it is nil,and xs is nothing). -/
def Own (w : World) (B : Nat) (k : IntKind) (e : TypeId) (v : Value) (xs : List Int) : Prop :=
  (v = .slice none 0 0 ∧ xs = []) ∨ ∃ b z,v = .slice (some ⟨b,0,none⟩) xs.length (xs.length + z) ∧ Arr w b e k (xs ++ List.replicate z 0) ∧ B ≤ b
section
variable {w w' : World} {B : Nat} {k : IntKind} {e : TypeId} {v : Value} {xs : List Int}
theorem Own.shape (h : Own w B k e v xs) : ∃ p c,v = .slice p xs.length c := by
  rcases h with ⟨rfl,rfl⟩ | ⟨b,z,rfl,_⟩
  · exact ⟨_,_,rfl⟩
  · exact ⟨_,_,rfl⟩
theorem Own.below (h : Own w B k e v xs) (hb : Below w.heap.size w w') : Own w' B k e v xs := by
  rcases h with h | ⟨b,z,hv,ha,r⟩
  · exact .inl h
  · exact .inr ⟨b,z,hv,ha.below hb ha.lt,r⟩
theorem Own.alloc (h : Own w B k e v xs) (o : Obj) : Own (w.alloc o) B k e v xs := by
  rcases h with h | ⟨b,z,hv,ha,r⟩
  · exact .inl h
  · exact .inr ⟨b,z,hv,ha.alloc o,r⟩
theorem Own.drew (h : Own w B k e v xs) : Own w.drew B k e v xs := h
end
theorem own_nil (w : World) (B : Nat) (k : IntKind) (e : TypeId) : Own w B k e (.slice none 0 0) [] := .inl ⟨rfl,rfl⟩
theorem own_zeros (w : World) (B : Nat) (k : IntKind) (e : TypeId) (n : Nat) (hB : B ≤ w.heap.size) : Own (w.alloc (.cells (zeros k n) e)) B k e (.slice (some ⟨w.heap.size,0,none⟩) n n) (List.replicate n 0) := by
  have h : (List.replicate n (0 : Int)).length = n := by simp
  exact .inr ⟨w.heap.size,0,by rw [h]; rfl,by simpa using Arr.zeros w e k n _ rfl,hB⟩

theorem setCells_arr (b : Nat) (e : TypeId) (k : IntKind) : ∀ (ys : List Int) (o : Nat) (w : World) (l : List Int),Arr w b e k l → o + ys.length ≤ l.length →
    Arr (w.setCells b o (ys.map (Value.int k))) b e k (l.take o ++ (ys ++ l.drop (o + ys.length)))
  | [],o,w,l,h,ho => by simpa [World.setCells] using h
  | y :: ys,o,w,l,h,ho => by
    simp only [List.length_cons] at ho
    have h1 := setCells_arr b e k ys (o + 1) (w.setCell ⟨b,o,none⟩ (.int k y)) (l.set o y) (h.set o y) (by simp; omega)
    rw [take_snoc (l.set o y) o 0 (by simp; omega),List.take_set,List.set_eq_of_length_le (by rw [List.length_take]; omega),getD_set _ _ _ _ (by omega),if_pos rfl,List.drop_set_of_lt (by omega)] at h1
    simp only [List.length_cons]
    rw [show o + (ys.length + 1) = o + 1 + ys.length by omega]
    simpa [World.setCells] using h1
theorem setCells_below (b : Nat) (B : Nat) (hB : B ≤ b) : ∀ (vs : List Value) (o : Nat) (a w : World),Below B a w → Below B a (w.setCells b o vs)
  | [],_,_,_,h => h
  | v :: r,o,a,w,h => setCells_below b B hB r (o + 1) a _ (h.setCell (p := ⟨b,o,none⟩) hB v)
theorem zeroCells_int (k : IntKind) (n : Nat) : Builtin.zeroCells (Value.int k 0).cells n = ((List.replicate n (0 : Int)).map (Value.int k)).toArray := by
  rw [← Array.toList_inj]
  have h : (Value.int k 0).cells = #[Value.int k 0] := rfl
  rw [h]
  simp [Builtin.zeroCells,Nat.mod_one]
  exact List.map_const' .. |>.trans (by simp)

/-- append of some integers to a row of the call's own. -/
theorem app_src {P : Program} {k : IntKind} {t tx e : TypeId} {bytes : Nat} (ty : TypeId) (hu : P.underlying t = some (.slice e)) (hinfo : (P.info? e).map (fun i => (i.zero,i.size,i.bytes)) = some (some (.int k 0),1,bytes)) (hby : bytes ≤ 8)
    {w : World} {B : Nat} {v x : Value} {xs ys : List Int} (hB : B ≤ w.heap.size) (h : Own w B k e v xs) (hs : Src P 1 tx x ys.length (ys.map (Value.int k)) w) (hy : 1 ≤ ys.length) (hm : xs.length + ys.length ≤ 4294967296) :
    ∃ v' w',(Builtin.append_ #[t,tx] ty #[v,x]).run P w = .ok v' w' ∧ Own w' B k e v' (xs ++ ys) ∧ Below B w w' := by
  obtain ⟨i,hi,hz,hsz,hb⟩ := info_parts hinfo
  have hg : ∀ (base : Option Addr) (cap : Nat) (hcap : cap < xs.length + ys.length) (hold : (Builtin.firstCells i.size xs.length (.slice base xs.length cap)).run P w.drew = .ok (xs.map (Value.int k)).toArray w.drew),
      ∃ v' w',(Builtin.append_ #[t,tx] ty #[.slice base xs.length cap,x]).run P w = .ok v' w' ∧ Own w' B k e v' (xs ++ ys) ∧ Below B w w' := by
    intro base cap hcap hold
    have hr := run_append_grow_src (P := P) w t tx ty e i _ hu hi hz base xs.length cap (xs.map (Value.int k)) hold x ys.length (ys.map (Value.int k)) (by rw [hsz]; exact hs) hcap (by omega) (growslice_fits hcap (by rw [hb]; have := Nat.mul_le_mul_left (xs.length + ys.length) hby; omega))
    rw [zeroCells_int] at hr
    have hge := grownCap_ge w (xs.length + ys.length) cap e
    generalize grownCap w (xs.length + ys.length) cap e = c at hr hge
    have e0 : ((xs.map (Value.int k)) ++ (ys.map (Value.int k))).toArray ++ ((List.replicate (c - (xs.length + ys.length)) (0 : Int)).map (Value.int k)).toArray = (((xs ++ ys) ++ List.replicate (c - (xs.length + ys.length)) 0).map (Value.int k)).toArray := by simp
    rw [e0] at hr
    refine ⟨_,_,hr,.inr ⟨w.heap.size,c - (xs.length + ys.length),by rw [List.length_append]; congr 1; omega,Arr.new w.drew e k _ _ rfl,hB⟩,?_⟩
    exact (Below.refl B w).drew.alloc hB _
  rcases h with ⟨rfl,rfl⟩ | ⟨b,z,rfl,ha,hb⟩
  · exact hg none 0 (by simp; omega) (run_firstCells_none w.drew i.size 0 0 0)
  · by_cases hroom : xs.length + ys.length ≤ xs.length + z
    · have hr := run_append_room_src (P := P) w t tx ty e i hu hi b 0 xs.length (xs.length + z) x ys.length (ys.map (Value.int k)) (by rw [hsz]; exact hs) hroom
        (fun j hj => by rw [hsz,ha.cell _ (by simp at hj ⊢; omega)]; rfl) (fun j hj => ha.free _)
      rw [hsz,Nat.zero_add,Nat.mul_one] at hr
      have h1 := setCells_arr b e k ys xs.length w _ ha (by simp; omega)
      rw [List.take_left,List.drop_append,List.drop_of_length_le (by omega),List.nil_append,Nat.add_sub_cancel_left,List.drop_replicate,← List.append_assoc] at h1
      exact ⟨_,_,hr,.inr ⟨b,z - ys.length,by rw [List.length_append]; congr 1; omega,h1,hb⟩,setCells_below b B hb _ _ _ _ (Below.refl B w)⟩
    · refine hg _ (xs.length + z) (by omega) ?_
      refine run_firstCells_some (P := P) w.drew i.size xs.length _ _ _ _ (by rw [hsz]; simp) (fun j u hj => ?_)
      have hjn : j < xs.length := by
        have := (List.getElem?_eq_some_iff.1 hj).1
        simpa using this
      have hadd : (⟨b,0,none⟩ : Addr).add j = ⟨b,j,none⟩ := by unfold Addr.add; split <;> simp_all
      have hx : (xs ++ List.replicate z 0).getD j 0 = xs.getD j 0 := by simp [List.getD_eq_getElem?_getD,List.getElem?_append_left hjn]
      rw [hadd,ha.drew.cell j (by simp; omega),hx,← hj,List.getElem?_map,List.getElem?_eq_getElem hjn]
      simp [List.getD_eq_getElem?_getD,List.getElem?_eq_getElem hjn]
/-- append(row,y): y stands in a cell of its own. -/
theorem app_one {P : Program} {k : IntKind} {t e : TypeId} {bytes : Nat} (ty : TypeId) (hu : P.underlying t = some (.slice e)) (hinfo : (P.info? e).map (fun i => (i.zero,i.size,i.bytes)) = some (some (.int k 0),1,bytes)) (hby : bytes ≤ 8)
    {w : World} {B h : Nat} {v : Value} {xs : List Int} {y : Int} (hB : B ≤ w.heap.size) (ho : Own w B k e v xs) (hc : w.cell? ⟨h,0,none⟩ = some (.int k y)) (hm : xs.length + 1 ≤ 4294967296) :
    ∃ v' w',(Builtin.append_ #[t,t] ty #[v,.slice (some ⟨h,0,none⟩) 1 1]).run P w = .ok v' w' ∧ Own w' B k e v' (xs ++ [y]) ∧ Below B w w' := by
  refine app_src (ys := [y]) ty hu hinfo hby hB ho (Src.ofSlice w hu ⟨h,0,none⟩ 1 1 [.int k y] (by simp) (fun j u hj => ?_) (fun u hu => by simp at hu; subst hu; rfl)) (by simp) (by simpa using hm)
  have hadd : (⟨h,0,none⟩ : Addr).add j = ⟨h,j,none⟩ := by unfold Addr.add; split <;> simp_all
  rcases j with _ | j
  · simp at hj; subst hj; rw [hadd]; exact hc
  · simp at hj
end Go.Proofs.Ytgccgacpifebbaa
