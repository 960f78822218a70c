/- append to a row of the call's own, and what it leaves alone. append of a text's bytes to a row of the call's own, whatever the text's length. Contract of appendDigits where there are no powers: nineteen digits are appended. Rows of numbers, the call's own: what append makes of them; the powers that appendDigits takes, and what lives on while out grows. -/
import Derived.Test.YtjoppmkknbpjbaaDoorApp
import Derived.Test.YtjoppmkknbpjbaaDoorTextWord
import Derived.Deep.AppendSrc
import Derived.Test.YtjoppmkknbpjbaaDoorDivAny
namespace Go.Proofs.YtjoppmkknbpjbaaDoor
open Go.RowKit
set_option linter.unusedVariables false

theorem setCells_kept (b : Nat) : ∀ (vs : List Value) (o : Nat) (w : World), w.grownBy (w.setCells b o vs) (some b)
  | [], _, w => World.grownBy.refl w _
  | v :: r, o, w => by
    have h := setCells_kept b r (o + 1) (w.setCell ⟨b, o, none⟩ v)
    have hs := Below.setCell (Below.refl 0 w) (p := ⟨b, o, none⟩) (Nat.zero_le b) v
    refine ⟨h.os.trans hs.os, h.tape.trans hs.tape, h.output.trans hs.output, Nat.le_trans hs.size h.size, fun q hq hne => ?_⟩
    exact (h.block q (Nat.lt_of_lt_of_le hq hs.size) hne).trans (heap_setCell_other w ⟨b, o, none⟩ q v (fun e => hne (by rw [e])))
/-- From v to v' nothing was turned but v's own block; v' lies in v's block, or in a new one. -/
def Keeps (v v' : Value) (w w' : World) : Prop := w.heap.size ≤ w'.heap.size ∧ (∀ q, q < w.heap.size → (∀ l c, v ≠ .slice (some ⟨q, 0, none⟩) l c) → w'.heap[q]? = w.heap[q]?) ∧ (∀ b l c, v' = .slice (some ⟨b, 0, none⟩) l c → w.heap.size ≤ b ∨ ∃ l c, v = .slice (some ⟨b, 0, none⟩) l c)
theorem Keeps.trans {v v1 v2 : Value} {w w1 w2 : World} (h : Keeps v v1 w w1) (g : Keeps v1 v2 w1 w2) : Keeps v v2 w w2 := by
  refine ⟨Nat.le_trans h.1 g.1, fun q hq hv => ?_, fun b l c hb => ?_⟩
  · rw [g.2.1 q (Nat.lt_of_lt_of_le hq h.1) (fun l c e => ?_), h.2.1 q hq hv]
    rcases h.2.2 q l c e with k | ⟨l, c, k⟩
    · exact absurd hq (Nat.not_lt.2 k)
    · exact hv l c k
  · rcases g.2.2 b l c hb with k | ⟨l, c, k⟩
    · exact .inl (Nat.le_trans h.1 k)
    · exact h.2.2 b l c k
theorem Keeps.below {v : Value} {w w' : World} (h : Below w.heap.size w w') : Keeps v v w w' := ⟨h.size, fun q hq _ => h.block q hq, fun b l c e => .inr ⟨l, c, e⟩⟩
/-- append of some integers to a row of the call's own: all other blocks stay as they were. -/
theorem app_kept {P : Program} {k : IntKind} {t tx e : TypeId} {bytes : Nat} (ty : TypeId) (hu : P.underlying t = some (.slice e)) (hinfo : (P.info? e).map (fun i => (i.zero, i.size, i.bytes)) = some (some (.int k 0), 1, bytes)) (hby : bytes ≤ 8)
    {w : World} {B : Nat} {v x : Value} {xs ys : List Int} (hB : B ≤ w.heap.size) (h : Own w B k e v xs) (hs : Src P 1 tx x ys.length (ys.map (Value.int k)) w) (hy : 1 ≤ ys.length) (hm : xs.length + ys.length ≤ 4294967296) :
    ∃ v' w' row, (Builtin.append_ #[t, tx] ty #[v, x]).run P w = .ok v' w' ∧ Own w' B k e v' (xs ++ ys) ∧ Below B w w' ∧ w.grownBy w' row ∧ (∀ r, row = some r → ∃ l c, v = .slice (some ⟨r, 0, none⟩) l c) ∧ Keeps v v' w w' := by
  obtain ⟨i, hi, hz, hsz, hb⟩ := info_parts hinfo
  have hg : ∀ (base : Option Addr) (cap : Nat) (hcap : cap < xs.length + ys.length) (hold : (Builtin.firstCells i.size xs.length (.slice base xs.length cap)).run P w.drew = .ok (xs.map (Value.int k)).toArray w.drew),
      ∃ v' w', (Builtin.append_ #[t, tx] ty #[.slice base xs.length cap, x]).run P w = .ok v' w' ∧ Own w' B k e v' (xs ++ ys) ∧ Below B w w' ∧ w.grownBy w' none ∧ Keeps (.slice base xs.length cap) v' w w' := by
    intro base cap hcap hold
    have hr := run_append_grow_src (P := P) w t tx ty e i _ hu hi hz base xs.length cap (xs.map (Value.int k)) hold x ys.length (ys.map (Value.int k)) (by rw [hsz]; exact hs) hcap (by omega) (growslice_fits hcap (by rw [hb]; have := Nat.mul_le_mul_left (xs.length + ys.length) hby; omega))
    rw [zeroCells_int] at hr
    have hge := grownCap_ge w (xs.length + ys.length) cap e
    generalize grownCap w (xs.length + ys.length) cap e = c at hr hge
    have e0 : ((xs.map (Value.int k)) ++ (ys.map (Value.int k))).toArray ++ ((List.replicate (c - (xs.length + ys.length)) (0 : Int)).map (Value.int k)).toArray = (((xs ++ ys) ++ List.replicate (c - (xs.length + ys.length)) 0).map (Value.int k)).toArray := by simp
    rw [e0] at hr
    refine ⟨_, _, hr, .inr ⟨w.heap.size, c - (xs.length + ys.length), by rw [List.length_append]; congr 1; omega, Arr.new w.drew e k _ _ rfl, hB⟩, (Below.refl B w).drew.alloc hB _, ?_⟩
    have hg := ((Below.refl w.heap.size w).drew.alloc (Nat.le_refl _) (.cells ((((xs ++ ys) ++ List.replicate (c - (xs.length + ys.length)) 0).map (Value.int k)).toArray) e))
    exact ⟨⟨hg.os, hg.tape, hg.output, hg.size, fun q hq _ => hg.block q hq⟩, hg.size, fun q hq _ => hg.block q hq, fun b l c e => .inl (by simp only [Value.slice.injEq, Option.some.injEq, Addr.mk.injEq] at e; omega)⟩
  rcases h with ⟨rfl, rfl⟩ | ⟨b, z, rfl, ha, hb⟩
  · obtain ⟨v', w', h1, h2, h3, h4, h5⟩ := hg none 0 (by simp; omega) (run_firstCells_none w.drew i.size 0 0 0)
    exact ⟨v', w', none, h1, h2, h3, h4, (fun r hr => by cases hr), h5⟩
  · by_cases hroom : xs.length + ys.length ≤ xs.length + z
    · have hr := run_append_room_src (P := P) w t tx ty e i hu hi b 0 xs.length (xs.length + z) x ys.length (ys.map (Value.int k)) (by rw [hsz]; exact hs) hroom
        (fun j hj => by rw [hsz, ha.cell _ (by simp at hj ⊢; omega)]; rfl) (fun j hj => ha.free _)
      rw [hsz, Nat.zero_add, Nat.mul_one] at hr
      have h1 := setCells_arr b e k ys xs.length w _ ha (by simp; omega)
      rw [List.take_left, List.drop_append, List.drop_of_length_le (by omega), List.nil_append, Nat.add_sub_cancel_left, List.drop_replicate, ← List.append_assoc] at h1
      exact ⟨_, _, some b, hr, .inr ⟨b, z - ys.length, by rw [List.length_append]; congr 1; omega, h1, hb⟩, setCells_below b B hb _ _ _ _ (Below.refl B w), setCells_kept b _ _ _, (fun r hr => by cases hr; exact ⟨_, _, rfl⟩), (setCells_kept b _ _ _).size, (fun q hq hv => (setCells_kept b _ _ _).block q hq (fun e => by cases e; exact hv _ _ rfl)), fun b' l c e => .inr (by cases e; exact ⟨_, _, rfl⟩)⟩
    · suffices hold : _ by
        obtain ⟨v', w', h1, h2, h3, h4, h5⟩ := hg _ (xs.length + z) (by omega) hold
        exact ⟨v', w', none, h1, h2, h3, h4, (fun r hr => by cases hr), h5⟩
      refine run_firstCells_some (P := P) w.drew i.size xs.length _ _ _ _ (by rw [hsz]; simp) (fun j u hj => ?_)
      have hjn : j < xs.length := by
        have := (List.getElem?_eq_some_iff.1 hj).1
        simpa using this
      have hadd : (⟨b, 0, none⟩ : Addr).add j = ⟨b, j, none⟩ := by unfold Addr.add; split <;> simp_all
      have hx : (xs ++ List.replicate z 0).getD j 0 = xs.getD j 0 := by simp [List.getD_eq_getElem?_getD, List.getElem?_append_left hjn]
      rw [hadd, ha.drew.cell j (by simp; omega), hx, ← hj, List.getElem?_map, List.getElem?_eq_getElem hjn]
      simp [List.getD_eq_getElem?_getD, List.getElem?_eq_getElem hjn]
end Go.Proofs.YtjoppmkknbpjbaaDoor

namespace Go.Proofs.YtjoppmkknbpjbaaDoor
open Go.RowKit
set_option linter.unusedVariables false

/-- A text's bytes as numbers. -/
def codes (t : ByteArray) : List Int := t.data.toList.map fun c => (c.toNat : Int)
theorem codes_length (t : ByteArray) : (codes t).length = t.size := by
  unfold codes
  rw [List.length_map, Array.length_toList]
  rfl
theorem codes_app (a b : ByteArray) : codes (a ++ b) = codes a ++ codes b := by simp [codes]
theorem byteCells_codes (t : ByteArray) : byteCells t = (codes t).map (Value.int .u8) := by
  unfold byteCells codes
  rw [List.map_map]
  rfl
theorem app_nothing {P : Program} {t tx e : TypeId} {i : TypeInfo} {x : Value} {w : World} (ty : TypeId) (hu : P.underlying t = some (.slice e)) (hi : P.info? e = some i) (hs : Src P i.size tx x 0 [] w) :
    (Builtin.append_ #[t, tx] ty #[.slice none 0 0, x]).run P w = .ok (.slice none 0 0) w := by
  rcases hs.kind with ⟨e', hk⟩ | hk <;> simp [Builtin.append_, run_underlying hu, run_underlying hk, sizeOf, typeInfo, hi, hs.len, hs.cells]
/-- append(row, text...): the row, and the text's bytes; all blocks but the row's stay as they were. -/
theorem app_str {w : World} {B : Nat} {v : Value} {xs : List Int} (t : ByteArray) (hB : B ≤ w.heap.size) (h : Own w B .u8 5 v xs) (hm : xs.length + t.size ≤ 4294967296) :
    ∃ v' w' row, (Builtin.append_ #[40, 9] 40 #[v, .string t]).run Tryd.prog w = .ok v' w' ∧ Own w' B .u8 5 v' (xs ++ codes t) ∧ Below B w w' ∧ w.grownBy w' row ∧ (∀ r, row = some r → ∃ l c, v = .slice (some ⟨r, 0, none⟩) l c) ∧ Keeps v v' w w' := by
  have hs := Src.ofString (P := Tryd.prog) w (tx := 9) (by kernel_rfl) t
  by_cases h0 : t.size = 0
  · have e0 : codes t = [] := List.eq_nil_of_length_eq_zero (by rw [codes_length]; exact h0)
    obtain ⟨i, hi, hz, hsz, hb⟩ := info_parts info8
    rw [byteCells_codes, e0, h0] at hs
    rw [e0, List.append_nil]
    rcases h with ⟨rfl, rfl⟩ | ⟨b, z, rfl, ha, hb'⟩
    · exact ⟨_, w, none, app_nothing 40 Tryd.underlying40 hi (by rw [hsz]; exact hs), .inl ⟨rfl, rfl⟩, Below.refl _ _, World.grownBy.refl w _, (fun r hr => by cases hr), Keeps.below (Below.refl _ _)⟩
    · have hr := run_append_room_src (P := Tryd.prog) w 40 9 40 5 i Tryd.underlying40 hi b 0 xs.length (xs.length + z) (.string t) 0 [] (by rw [hsz]; exact hs) (by omega) (fun j hj => absurd hj (Nat.not_lt_zero j)) (fun j hj => absurd hj (Nat.not_lt_zero j))
      exact ⟨_, w, none, hr, .inr ⟨b, z, rfl, ha, hb'⟩, Below.refl _ _, World.grownBy.refl w _, (fun r hr => by cases hr), Keeps.below (Below.refl _ _)⟩
  · rw [byteCells_codes] at hs
    have hl := codes_length t
    rw [← hl] at hs
    exact app_kept 40 Tryd.underlying40 info8 (by decide) hB h hs (by omega) (by omega)
end Go.Proofs.YtjoppmkknbpjbaaDoor

namespace Go.Proofs.YtjoppmkknbpjbaaDoor
open Go.RowKit
set_option linter.unusedVariables false

theorem IsText.size_le {t : ByteArray} {n : Int} {m : Nat} (h : IsText t n) (hn : n < 10 ^ m) (hm : 1 ≤ m) : t.size ≤ m := by
  obtain ⟨h1, h2, h3, h4⟩ := h
  apply Nat.le_of_not_lt
  intro hc
  rcases h3 with h3 | h3
  · omega
  · obtain ⟨k, hk⟩ : ∃ k, t.size = k + 1 := ⟨t.size - 1, by omega⟩
    have l1 := decTo_low (s := t) (k := k) (fun j hj => h2 j (by omega)) h3
    have l2 := ten_mono (a := m) (b := k) (by omega)
    rw [← hk] at l1
    omega
/-- What appendDigits answers: m digits more, that tell X. -/
def RetDigits (v : Value) (xs : List Int) (B m : Nat) (X : Int) (w : World) (e : Ending) (w' : World) : Prop := ∃ v' t, e = .returned v' ∧ Own w' B .u8 5 v' (xs ++ codes t) ∧ t.size = m ∧ Digs t ∧ decTo t m = X ∧ Below B w w' ∧ Keeps v v' w w'
def noughts19 : ByteArray := ⟨#[48, 48, 48, 48, 48, 48, 48, 48, 48, 48, 48, 48, 48, 48, 48, 48, 48, 48, 48]⟩
theorem noughts_dg : ∀ j, dg noughts19 j = 0 := by
  intro j
  unfold dg
  split
  · rename_i h
    have h1 : j < 19 := h
    have : ∀ i : Fin 19, ((noughts19[i.1]'i.2).toNat : Int) - 48 = 0 := by decide
    exact this ⟨j, h1⟩
  · rfl
theorem noughts_cut (k : Nat) (hk : k ≤ 19) : (noughts19.extract k 19).size = 19 - k ∧ Digs (noughts19.extract k 19) ∧ decTo (noughts19.extract k 19) (19 - k) = 0 := by
  have hd : ∀ j, dg (noughts19.extract k 19) j = 0 := fun j => by
    have := dg_rest (t := noughts19) (n := k) hk j
    rw [noughts_dg] at this
    exact this
  refine ⟨by rw [ByteArray.size_extract]; show min 19 19 - k = 19 - k; omega, fun j _ => by rw [hd]; exact ⟨by decide, by decide⟩, ?_⟩
  generalize 19 - k = m
  induction m with
  | zero => rfl
  | succ m ih => simp only [decTo, ih, hd]; rfl
set_option maxRecDepth 100000 in
set_option maxHeartbeats 4000000 in
theorem digits_none (u : Nat) (hu : u < 10000000000000000000) (pp : Option Addr) (cp : Nat) (v : Value) (xs : List Int) (B : Nat) (w : World) (htab : Tab w) (hB : B ≤ w.heap.size) (h : Own w B .u8 5 v xs) (hm : xs.length ≤ 1000000) :
    Calls Tryd.prog 33 #[.agg #[.int .u64 u, .slice none 0 0], v, .slice pp 0 cp] w (RetDigits v xs B 19 u w) := by
  obtain ⟨pv, cv, rfl⟩ := h.shape
  have hb0 : Below w.heap.size w (w.alloc (.cells #[.int .u64 u, .slice none 0 0] 25)) := by go_grown
  go_enter Tryd.func33, Tryd.ntmps33
  go_wp2_with fail
  refine (format_any u (by omega) _ (htab.below hb0)).mono ?_
  rintro e w1 ⟨rfl, hb1⟩
  have ht := isText_dec u
  generalize (⟨(Lib.decDigits u).toArray⟩ : ByteArray) = ds at ht ⊢
  have hz0 := hb0.size
  have hb : Below w.heap.size w w1 := hb0.trans (hb1.mono hz0)
  have t19 : (10 : Int) ^ 19 = 10000000000000000000 := by decide
  have hsz := ht.size_le (m := 19) (by rw [t19]; omega) (by decide)
  obtain ⟨z1, z2, z3⟩ := noughts_cut ds.size hsz
  have hz1 := hb.size
  obtain ⟨v1, w2, r1, run1, own1, bel1, g1, k1, keep1⟩ := app_str (noughts19.extract ds.size 19) (Nat.le_trans hB hz1) (h.below hb) (by rw [z1]; omega)
  have hz2 := bel1.size
  obtain ⟨v2, w3, r2, run2, own2, bel2, g2, k2, keep2⟩ := app_str ds (Nat.le_trans hB (Nat.le_trans hz1 hz2)) own1 (by rw [List.length_append, codes_length, z1]; omega)
  have Hrun1 := Lib.hid run1
  have Hrun2 := Lib.hid run2
  have dsz : (ds.size : Int) ≤ 19 := by omega
  clear run1 run2 hb1
  go_wp2_with (first | (at_builtin; refine Lib.wpList_append_run _ rfl _ _ _ _ rfl _ _ rfl rfl _ _ Hrun1.out ?_) | (at_builtin; refine Lib.wpList_append_run _ rfl _ _ _ _ rfl _ _ rfl rfl _ _ Hrun2.out ?_))
  go_ret
  have ht2 := ht.2.2.2
  have e1 := decTo_app (noughts19.extract ds.size 19) ds ds.size
  rw [z1, z3, Int.zero_mul, Int.zero_add, ht2, show 19 - ds.size + ds.size = 19 by omega] at e1
  refine ⟨_, noughts19.extract ds.size 19 ++ ds, rfl, by rw [codes_app, ← List.append_assoc]; exact own2, by rw [ByteArray.size_append]; omega, z2.app ht.2.1, e1, ((hb.mono hB).trans bel1).trans bel2, ((Keeps.below hb).trans keep1).trans keep2⟩
end Go.Proofs.YtjoppmkknbpjbaaDoor

namespace Go.Proofs.YtjoppmkknbpjbaaDoor
open Go.RowKit
set_option linter.unusedVariables false

theorem infoNat : (Tryd.prog.info? 25).map (fun i => (i.zero, i.size, i.bytes)) = some (some (.agg #[.int .u64 0, .slice none 0 0]), 2, 32) := by kernel_rfl
theorem setCells_row (b : Nat) (e : TypeId) : ∀ (ys : List Value) (o : Nat) (w : World) (l : List Value), w.heap[b]? = some (.cells l.toArray e (0, 0)) → o + ys.length ≤ l.length →
    (w.setCells b o ys).heap[b]? = some (.cells (l.take o ++ (ys ++ l.drop (o + ys.length))).toArray e (0, 0))
  | [], o, w, l, h, ho => by simpa [World.setCells] using h
  | y :: ys, o, w, l, h, ho => by
    simp only [List.length_cons] at ho
    have h0 : (w.setCell ⟨b, o, none⟩ y).heap[b]? = some (.cells (l.set o y).toArray e (0, 0)) := by
      rw [heap_setCell_same w b o _ e y h]
      simp
    have h1 := setCells_row b e ys (o + 1) (w.setCell ⟨b, o, none⟩ y) (l.set o y) h0 (by simp; omega)
    rw [take_snoc (l.set o y) o undef (by simp; omega), List.take_set, List.set_eq_of_length_le (by rw [List.length_take]; omega), List.getD_eq_getElem?_getD, List.getElem?_set_self (by omega), List.drop_set_of_lt (by omega)] at h1
    simp only [List.length_cons]
    rw [show o + (ys.length + 1) = o + 1 + ys.length by omega]
    simpa [World.setCells] using h1
/-- The slice v holds n elements of s cells each, cs in all, in a block from B on, its spare room at the end. -/
def OwnC (w : World) (B : Nat) (e : TypeId) (s : Nat) (v : Value) (n : Nat) (cs : List Value) : Prop :=
  ∃ b z rest, v = .slice (some ⟨b, 0, none⟩) n (n + z) ∧ w.heap[b]? = some (.cells (cs ++ rest).toArray e (0, 0)) ∧ cs.length = n * s ∧ rest.length = z * s ∧ B ≤ b
theorem OwnC.cell {w : World} {B : Nat} {e : TypeId} {s : Nat} {b n c : Nat} {cs : List Value} (h : OwnC w B e s (.slice (some ⟨b, 0, none⟩) n c) n cs) (i : Nat) (x : Value) (hx : cs[i]? = some x) : w.cell? ⟨b, i, none⟩ = some x := by
  obtain ⟨b', z, rest, hv, ha, h1, h2, h3⟩ := h
  simp only [Value.slice.injEq, Option.some.injEq, Addr.mk.injEq] at hv
  obtain ⟨⟨rfl, _, _⟩, _, _⟩ := hv
  rw [cell_of_row w b i _ e (0, 0) ha]
  have hi : i < cs.length := (List.getElem?_eq_some_iff.1 hx).1
  simp [List.getElem?_append_left hi, hx]
/-- append(row, number). -/
theorem app_nat {w : World} {B n h : Nat} {v : Value} {cs : List Value} {x y : Value} (hB : B ≤ w.heap.size) (ho : OwnC w B 25 2 v n cs) (hx : w.cell? ⟨h, 0, none⟩ = some x) (hy : w.cell? ⟨h, 1, none⟩ = some y) (ox : x.oneCell' = true) (oy : y.oneCell' = true) (hm : n + 1 ≤ 4294967296) :
    ∃ v' w', (Builtin.append_ #[59, 59] 59 #[v, .slice (some ⟨h, 0, none⟩) 1 1]).run Tryd.prog w = .ok v' w' ∧ OwnC w' B 25 2 v' (n + 1) (cs ++ [x, y]) ∧ Below B w w' ∧ ∃ row, w.grownBy w' row ∧ (∀ r, row = some r → ∃ l c, v = .slice (some ⟨r, 0, none⟩) l c) := by
  obtain ⟨i, hi, hz, hsz, hb⟩ := info_parts infoNat
  have hs : Src Tryd.prog i.size 59 (.slice (some ⟨h, 0, none⟩) 1 1) 1 [x, y] w := by
    rw [hsz]
    refine Src.ofSlice w Tryd.underlying59 ⟨h, 0, none⟩ 1 1 [x, y] (by simp) (fun j u hj => ?_) (fun u hu => ?_)
    · have hadd : (⟨h, 0, none⟩ : Addr).add j = ⟨h, j, none⟩ := by unfold Addr.add; split <;> simp_all
      rw [hadd]
      rcases j with _ | _ | j
      · simp at hj; subst hj; exact hx
      · simp at hj; subst hj; exact hy
      · simp at hj
    · simp at hu
      rcases hu with rfl | rfl
      · exact ox
      · exact oy
  obtain ⟨b, z, rest, rfl, ha, hcs, hrest, hbB⟩ := ho
  by_cases hroom : n + 1 ≤ n + z
  · have hr := run_append_room_src (P := Tryd.prog) w 59 59 59 25 i Tryd.underlying59 hi b 0 n (n + z) (.slice (some ⟨h, 0, none⟩) 1 1) 1 [x, y] hs hroom
      (fun j hj => by
        have hj2 : j < 2 := by simpa using hj
        rw [hsz, cell_of_row w b _ _ 25 (0, 0) ha]
        have hlt : 0 + n * 2 + j < (cs ++ rest).length := by rw [List.length_append]; omega
        simp
        omega)
      (fun j hj => frozen_of_row w b _ _ 25 ha)
    rw [hsz, Nat.zero_add] at hr
    have h1 := setCells_row b 25 [x, y] (n * 2) w _ ha (by simp; omega)
    rw [← hcs, List.take_left, List.drop_append, List.drop_of_length_le (by omega), List.nil_append, ← List.append_assoc] at h1
    rw [← hcs] at hr
    refine ⟨_, _, hr, ⟨b, z - 1, rest.drop (cs.length + [x, y].length - cs.length), by rw [show n + 1 + (z - 1) = n + z by omega], h1, by rw [List.length_append, hcs]; show n * 2 + 2 = (n + 1) * 2; omega, ?_, hbB⟩, setCells_below b B hbB _ _ _ _ (Below.refl B w), some b, setCells_kept b _ _ _, fun r hr => by cases hr; exact ⟨_, _, rfl⟩⟩
    rw [List.length_drop, hrest]
    simp
    omega
  · have hold : (Builtin.firstCells i.size n (.slice (some ⟨b, 0, none⟩) n (n + z))).run Tryd.prog w.drew = .ok cs.toArray w.drew := by
      refine run_firstCells_some (P := Tryd.prog) w.drew i.size n _ _ _ _ (by rw [hsz]; exact hcs) (fun j u hj => ?_)
      have hadd : (⟨b, 0, none⟩ : Addr).add j = ⟨b, j, none⟩ := by unfold Addr.add; split <;> simp_all
      have hjn : j < cs.length := (List.getElem?_eq_some_iff.1 hj).1
      rw [hadd, cell_of_row w.drew b j _ 25 (0, 0) ha]
      simp [List.getElem?_append_left hjn, hj]
    have hr := run_append_grow_src (P := Tryd.prog) w 59 59 59 25 i _ Tryd.underlying59 hi hz (some ⟨b, 0, none⟩) n (n + z) cs hold (.slice (some ⟨h, 0, none⟩) 1 1) 1 [x, y] hs (by omega) (by omega) (growslice_fits (by omega) (by rw [hb]; omega))
    have hge := grownCap_ge w (n + 1) (n + z) 25
    generalize grownCap w (n + 1) (n + z) 25 = c at hr hge
    obtain ⟨zl, hzl⟩ : ∃ zl : List Value, zl.toArray = Builtin.zeroCells (Value.agg #[.int .u64 0, .slice none 0 0]).cells (c - (n + 1)) := ⟨_, Array.toArray_toList⟩
    have hzn : zl.length = (c - (n + 1)) * 2 := by
      have := congrArg Array.size hzl
      simpa [Builtin.zeroCells, Value.cells] using this
    rw [← hzl] at hr
    have e0 : (cs ++ [x, y]).toArray ++ zl.toArray = ((cs ++ [x, y]) ++ zl).toArray := by simp
    rw [e0] at hr
    refine ⟨_, _, hr, ⟨w.heap.size, c - (n + 1), zl, by rw [show n + 1 + (c - (n + 1)) = c by omega], heap_alloc_new w.drew _, by rw [List.length_append, hcs]; show n * 2 + 2 = (n + 1) * 2; omega, hzn, hB⟩, (Below.refl B w).drew.alloc hB _, none, ?_, fun r hr => by cases hr⟩
    have hg := ((Below.refl w.heap.size w).drew.alloc (Nat.le_refl _) (.cells (((cs ++ [x, y]) ++ zl).toArray) 25))
    exact ⟨hg.os, hg.tape, hg.output, hg.size, fun q hq _ => hg.block q hq⟩

/-- The first k numbers of block b: 10^19, its square, the square's square. -/
def Pows (w : World) (b k : Nat) : Prop := ∀ i, i < k → ∃ x p l c, w.cell? ⟨b, i * 2, none⟩ = some (.int .u64 x) ∧ w.cell? ⟨b, i * 2 + 1, none⟩ = some (.slice p l c) ∧ IsNat w (.agg #[.int .u64 x, .slice p l c]) (10 ^ (19 * 2 ^ i))
theorem Pows.less {w : World} {b k j : Nat} (h : Pows w b k) (hj : j ≤ k) : Pows w b j := fun i hi => h i (by omega)
theorem Pows.below {w w' : World} {b k : Nat} (h : Pows w b k) (hb : Below w.heap.size w w') : Pows w' b k := by
  intro i hi
  obtain ⟨x, p, l, c, h1, h2, h3⟩ := h i hi
  refine ⟨x, p, l, c, ?_, ?_, h3.below hb⟩
  · rw [hb.cell (p := ⟨b, i * 2, none⟩) (World.block_lt_of_cell? w ⟨b, i * 2, none⟩ h1)]; exact h1
  · rw [hb.cell (p := ⟨b, i * 2 + 1, none⟩) (World.block_lt_of_cell? w ⟨b, i * 2 + 1, none⟩ h2)]; exact h2
/-- A block in which a cell stands that is no byte is not the row of bytes. -/
theorem Own.apart {w : World} {B b i : Nat} {e : TypeId} {o x : Value} {xs : List Int} (h : Own w B .u8 e o xs) (hx : w.cell? ⟨b, i, none⟩ = some x) (hn : ∀ y, x ≠ .int .u8 y) : ∀ l c, o ≠ .slice (some ⟨b, 0, none⟩) l c := by
  rintro l c rfl
  rcases h with ⟨h, _⟩ | ⟨b', z, hv, ha, hB⟩
  · cases h
  · simp only [Value.slice.injEq, Option.some.injEq, Addr.mk.injEq] at hv
    obtain ⟨⟨rfl, _, _⟩, _, _⟩ := hv
    rw [cell_of_row w b i _ e (0, 0) ha] at hx
    simp only [List.getElem?_toArray, List.getElem?_map, Option.map_eq_some_iff] at hx
    obtain ⟨y, _, hy⟩ := hx
    exact hn y hy.symm
theorem Keeps.cell {o o' x : Value} {w w' : World} {b i : Nat} (h : Keeps o o' w w') (hx : w.cell? ⟨b, i, none⟩ = some x) (ho : ∀ l c, o ≠ .slice (some ⟨b, 0, none⟩) l c) : w'.cell? ⟨b, i, none⟩ = some x := by
  have hlt := World.block_lt_of_cell? w ⟨b, i, none⟩ hx
  have hh := h.2.1 b hlt ho
  unfold World.cell? at hx ⊢
  simp only at hx hh ⊢
  rw [hh]
  exact hx
theorem IsNat.keeps {w w' : World} {v o o' : Value} {n : Int} {B : Nat} {e : TypeId} {xs : List Int} (h : IsNat w v n) (ho : Own w B .u8 e o xs) (hk : Keeps o o' w w') : IsNat w' v n := by
  rcases h with h | ⟨b, t, len, cap, l, hv, ha, h2, h3, h4, r⟩
  · exact .inl h
  · have ne := ho.apart (ha.cell 0 (by omega)) (fun y hy => by simp at hy)
    exact .inr ⟨b, t, len, cap, l, hv, (hk.2.1 b ha.lt ne).trans ha, h2, h3, h4, r⟩
theorem Var.keeps {w w' : World} {o o' x y : Value} {c B : Nat} {e : TypeId} {xs : List Int} (h : Var w c x y) (ho : Own w B .u8 e o xs) (hk : Keeps o o' w w') : Var w' c x y := by
  obtain ⟨h1, p, l, q, rfl⟩ := h
  have hv : Var w c x (.slice p l q) := ⟨h1, p, l, q, rfl⟩
  exact ⟨(hk.2.1 c hv.lt (ho.apart hv.c1 (fun y hy => by cases hy))).trans h1, p, l, q, rfl⟩
theorem Pows.keeps {w w' : World} {o o' : Value} {b k B : Nat} {e : TypeId} {xs : List Int} (h : Pows w b k) (ho : Own w B .u8 e o xs) (hk : Keeps o o' w w') : Pows w' b k := by
  intro i hi
  obtain ⟨x, p, l, c, h1, h2, h3⟩ := h i hi
  exact ⟨x, p, l, c, hk.cell h1 (ho.apart h1 (fun y hy => by cases hy)), hk.cell h2 (ho.apart h2 (fun y hy => by cases hy)), h3.keeps ho hk⟩
theorem Tab.keeps {w w' : World} {o o' : Value} {B : Nat} {e : TypeId} {xs : List Int} (h : Tab w) (ho : Own w B .u8 e o xs) (hk : Keeps o o' w w') : Tab w' := by
  have h0 := h
  unfold Tab Lib.TabIs World.var? at h0 ⊢
  cases hg : Tryd.prog.globalNamed "internal/strconv.uint64pow10" with
  | none => rw [hg] at h0; cases h0
  | some g =>
    have hc := Lib.TabIs.cell h hg 0 (by decide)
    have hlt := World.block_lt_of_cell? w ⟨g, 0, none⟩ hc
    have hb := hk.2.1 g hlt (ho.apart hc (fun y hy => by cases hy))
    simp only [hg, Option.bind_some] at h0 ⊢
    rwa [hb]
end Go.Proofs.YtjoppmkknbpjbaaDoor
