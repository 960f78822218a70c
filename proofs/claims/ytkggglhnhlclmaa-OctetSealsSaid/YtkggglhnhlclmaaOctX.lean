/- append, and hand.Few, of any length that a machine has; bytes as a text; Seal of a kind that is none. -/
import Derived.Test.YtkggglhnhlclmaaOctI
import Derived.Deep.DeepAppendWide
import Derived.Laws.BytesArg
namespace Go.Proofs.Ytkggglhnhlclmaa
open Go.RowKit
set_option linter.unusedVariables false

theorem app_kept_wide {P : Program} {k : IntKind} {t tx e : TypeId} {bytes : Nat} (ty : TypeId) (hu : P.underlying t = some (.slice e)) (hinfo : (P.info? e).map (fun i => (i.zero, i.size, i.bytes)) = some (some (.int k 0), 1, bytes)) (hby : bytes ≤ 8)
    {w : World} {B : Nat} {v x : Value} {xs ys : List Int} (hB : B ≤ w.heap.size) (h : Own w B k e v xs) (hs : Src P 1 tx x ys.length (ys.map (Value.int k)) w) (hy : 1 ≤ ys.length) (hm : (xs.length + ys.length + (xs.length + ys.length) / 4 + 192) * bytes ≤ 281474976710656) (hm0 : xs.length + ys.length ≤ 281474976710656) :
    ∃ v' w' row, (Builtin.append_ #[t, tx] ty #[v, x]).run P w = .ok v' w' ∧ Own w' B k e v' (xs ++ ys) ∧ Below B w w' ∧ w.grownBy w' row ∧ (∀ r, row = some r → ∃ l c, v = .slice (some ⟨r, 0, none⟩) l c) ∧ Keeps v v' w w' := by
  obtain ⟨i, hi, hz, hsz, hb⟩ := info_parts hinfo
  have hg : ∀ (base : Option Addr) (cap : Nat) (hcap : cap < xs.length + ys.length) (hold : (Builtin.firstCells i.size xs.length (.slice base xs.length cap)).run P w.drew = .ok (xs.map (Value.int k)).toArray w.drew),
      ∃ v' w', (Builtin.append_ #[t, tx] ty #[.slice base xs.length cap, x]).run P w = .ok v' w' ∧ Own w' B k e v' (xs ++ ys) ∧ Below B w w' ∧ w.grownBy w' none ∧ Keeps (.slice base xs.length cap) v' w w' := by
    intro base cap hcap hold
    have hr := run_append_grow_src (P := P) w t tx ty e i _ hu hi hz base xs.length cap (xs.map (Value.int k)) hold x ys.length (ys.map (Value.int k)) (by rw [hsz]; exact hs) hcap (by omega) (growslice_fits_wide hcap (by rw [hb]; exact hm))
    rw [zeroCells_int] at hr
    have hge := grownCap_ge w (xs.length + ys.length) cap e
    generalize grownCap w (xs.length + ys.length) cap e = c at hr hge
    have e0 : ((xs.map (Value.int k)) ++ (ys.map (Value.int k))).toArray ++ ((List.replicate (c - (xs.length + ys.length)) (0 : Int)).map (Value.int k)).toArray = (((xs ++ ys) ++ List.replicate (c - (xs.length + ys.length)) 0).map (Value.int k)).toArray := by simp
    rw [e0] at hr
    refine ⟨_, _, hr, .inr ⟨w.heap.size, c - (xs.length + ys.length), by rw [List.length_append]; congr 1; omega, Arr.new w.drew e k _ _ rfl, hB⟩, (Below.refl B w).drew.alloc hB _, ?_⟩
    have hg := ((Below.refl w.heap.size w).drew.alloc (Nat.le_refl _) (.cells ((((xs ++ ys) ++ List.replicate (c - (xs.length + ys.length)) 0).map (Value.int k)).toArray) e))
    exact ⟨⟨hg.os, hg.tape, hg.output, hg.size, fun q hq _ => hg.block q hq⟩, hg.size, fun q hq _ => hg.block q hq, fun b l c e => .inl (by simp only [Value.slice.injEq, Option.some.injEq, Addr.mk.injEq] at e; omega)⟩
  rcases h with ⟨rfl, rfl⟩ | ⟨b, z, rfl, ha, hb⟩
  · obtain ⟨v', w', h1, h2, h3, h4, h5⟩ := hg none 0 (by simp; omega) (run_firstCells_none w.drew i.size 0 0 0)
    exact ⟨v', w', none, h1, h2, h3, h4, (fun r hr => by cases hr), h5⟩
  · by_cases hroom : xs.length + ys.length ≤ xs.length + z
    · have hr := run_append_room_src (P := P) w t tx ty e i hu hi b 0 xs.length (xs.length + z) x ys.length (ys.map (Value.int k)) (by rw [hsz]; exact hs) hroom
        (fun j hj => by rw [hsz, ha.cell _ (by simp at hj ⊢; omega)]; rfl) (fun j hj => ha.free _)
      rw [hsz, Nat.zero_add, Nat.mul_one] at hr
      have h1 := setCells_arr b e k ys xs.length w _ ha (by simp; omega)
      rw [List.take_left, List.drop_append, List.drop_of_length_le (by omega), List.nil_append, Nat.add_sub_cancel_left, List.drop_replicate, ← List.append_assoc] at h1
      exact ⟨_, _, some b, hr, .inr ⟨b, z - ys.length, by rw [List.length_append]; congr 1; omega, h1, hb⟩, setCells_below b B hb _ _ _ _ (Below.refl B w), setCells_kept b _ _ _, (fun r hr => by cases hr; exact ⟨_, _, rfl⟩), (setCells_kept b _ _ _).size, (fun q hq hv => (setCells_kept b _ _ _).block q hq (fun e => by cases e; exact hv _ _ rfl)), fun b' l c e => .inr (by cases e; exact ⟨_, _, rfl⟩)⟩
    · suffices hold : _ by
        obtain ⟨v', w', h1, h2, h3, h4, h5⟩ := hg _ (xs.length + z) (by omega) hold
        exact ⟨v', w', none, h1, h2, h3, h4, (fun r hr => by cases hr), h5⟩
      refine run_firstCells_some (P := P) w.drew i.size xs.length _ _ _ _ (by rw [hsz]; simp) (fun j u hj => ?_)
      have hjn : j < xs.length := by
        have := (List.getElem?_eq_some_iff.1 hj).1
        simpa using this
      have hadd : (⟨b, 0, none⟩ : Addr).add j = ⟨b, j, none⟩ := by unfold Addr.add; split <;> simp_all
      have hx : (xs ++ List.replicate z 0).getD j 0 = xs.getD j 0 := by simp [List.getD_eq_getElem?_getD, List.getElem?_append_left hjn]
      rw [hadd, ha.drew.cell j (by simp; omega), hx, ← hj, List.getElem?_map, List.getElem?_eq_getElem hjn]
      simp [List.getD_eq_getElem?_getD, List.getElem?_eq_getElem hjn]
theorem app_bs_wide {w : World} {B : Nat} {v x : Value} {xs l : List Int} (hB : B ≤ w.heap.size) (ho : Own w B .u8 5 v xs) (h : Bs w x l) (hm : xs.length + l.length ≤ 200000000000000) :
    ∃ v' w', (Builtin.append_ #[22, 22] 22 #[v, x]).run Try.prog w = .ok v' w' ∧ Own w' B .u8 5 v' (xs ++ l) ∧ Below B w w' ∧ Keeps v v' w w' := by
  have hs := h.src
  by_cases h0 : l.length = 0
  · have e : l = [] := List.eq_nil_of_length_eq_zero h0
    subst e
    obtain ⟨i, hi, hz, hsz, hb⟩ := info_parts info8'
    rw [List.append_nil]
    rcases ho with ⟨rfl, rfl⟩ | ⟨b, z, rfl, ha, hb'⟩
    · have hr : (Builtin.append_ #[22, 22] 22 #[.slice none 0 0, x]).run Try.prog w = .ok (.slice none 0 0) w := by
        rw [← hsz] at hs
        have hs' : Src Try.prog i.size 22 x 0 [] w := hs
        have hc := hs'.cells
        have hl := hs'.len
        simp [Builtin.append_, run_underlying Try.underlying22, sizeOf, typeInfo, hi, hl, hc]
      exact ⟨_, w, hr, .inl ⟨rfl, rfl⟩, Below.refl _ _, Keeps.below (Below.refl _ _)⟩
    · have hr := run_append_room_src (P := Try.prog) w 22 22 22 5 i Try.underlying22 hi b 0 xs.length (xs.length + z) x 0 [] (by rw [hsz]; exact hs) (by omega) (fun j hj => absurd hj (Nat.not_lt_zero j)) (fun j hj => absurd hj (Nat.not_lt_zero j))
      exact ⟨_, w, hr, .inr ⟨b, z, rfl, ha, hb'⟩, Below.refl _ _, Keeps.below (Below.refl _ _)⟩
  · have hl : (l.map (Value.int .u8)).length = l.length := List.length_map ..
    obtain ⟨v', w', row, h1, h2, h3, _, _, h4⟩ := app_kept_wide 22 Try.underlying22 info8' (by decide) hB ho hs (by omega) (by omega) (by omega)
    exact ⟨v', w', h1, h2, h3, h4⟩
set_option maxRecDepth 100000 in
set_option maxHeartbeats 1000000 in
theorem few_wide (N : Int) (hN1 : 0 ≤ N) (hN2 : N ≤ 200000000000000) (v : Value) (l : List Int) (w : World) (h : Bs w v l) : Calls Try.prog 6 #[v, .int .i64 N] w fun e w' => ∃ v', e = .returned v' ∧ Own w' w.heap.size .u8 5 v' (l.take N.toNat) ∧ Below w.heap.size w w' := by
  obtain ⟨p, c, rfl⟩ := h.shape
  obtain ⟨len, hlen⟩ : ∃ len, l.length = len := ⟨_, rfl⟩
  rw [hlen] at h ⊢
  obtain ⟨_, h1, h2⟩ := h.len
  obtain ⟨n, hn⟩ : ∃ n : Nat, min len N.toNat = n := ⟨_, rfl⟩
  have hmin : min (len : Int) N = (n : Int) := by omega
  have a1 : n ≤ c := by omega
  have a2 : (n : Int) ≤ (c : Int) := by omega
  have hf := h.front (n := n) (by omega)
  have et : l.take n = l.take N.toNat := by
    by_cases e : len ≤ N.toNat
    · rw [List.take_of_length_le (by omega), List.take_of_length_le (by omega)]
    · rw [show n = N.toNat by omega]
  have hW : Below w.heap.size w (w.alloc (.cells #[] 5)) := by go_grown
  have own0 : Own (w.alloc (.cells #[] 5)) w.heap.size .u8 5 (.slice (some ⟨w.heap.size, 0, none⟩) 0 0) [] := .inr ⟨w.heap.size, 0, rfl, Arr.new w _ _ [] _ rfl, Nat.le_refl _⟩
  obtain ⟨v', w', hrun, ho, hb, _⟩ := app_bs_wide (B := w.heap.size) hW.size own0 (hf.below hW) (by rw [List.length_take]; simp; omega)
  rw [List.nil_append, et] at ho
  have Hrun := Lib.hid hrun
  have hbw := hW.trans hb
  clear hrun hn et
  go_enter Try.func6, Try.ntmps6
  go_wp2_with (at_builtin; refine Lib.wpList_append_run _ rfl _ _ _ _ rfl _ _ rfl rfl _ _ Hrun.out ?_)
  go_ret
  exact ⟨_, rfl, ho, hbw⟩
/-- Bytes as a text. -/
theorem str_bs {w : World} {v : Value} {l : List Int} (h : Bs w v l) : (convert 22 9 v).run Try.prog w = .ok (.string (strOfNums l)) w := by
  obtain ⟨p, c, rfl, h1, h2, h3, h4⟩ := h
  rcases Nat.eq_zero_or_pos l.length with h0 | h0
  · have e : l = [] := List.eq_nil_of_length_eq_zero h0
    subst e
    have hn : strOfNums [] = ByteArray.empty := by simp [strOfNums]; rfl
    rw [hn]
    rcases p with _ | a
    · exact run_convert_bytes_nil w 22 5 Try.underlying22 Try.underlying5 _ c _ Try.underlying9
    · rw [run_convert_bytes_string w 22 9 5 _ _ _ Try.underlying22 Try.underlying5 Try.underlying9]
      exact run_bytesToString w a 0 c [] (by simp [loadCells, loadCellsFrom])
  · obtain ⟨g, off, rfl, hc⟩ := h4 h0
    exact run_convert_bytes_arg w 22 5 Try.underlying22 Try.underlying5 g off l.length c l rfl hc _ Try.underlying9
set_option maxRecDepth 100000 in
theorem seal_arg (k : Int) (hk : k < 1 ∨ 255 < k) (v : Value) (w : World) : Calls Try.prog 5 #[.int .i64 k, v] w fun e w' => e = .returned (.tuple #[.slice none 0 0, .int .i64 1]) ∧ w = w' := by
  rcases hk with hk | hk
  · go_enter Try.func5, Try.ntmps5
    go_wp2_with fail
    refine bodyPost_ret (v := .tuple #[.slice none 0 0, .int .i64 1]) ?_ rfl ⟨rfl, rfl⟩
    simp [results, Try.results5]
  · have hk2 : ¬ k < 1 := by omega
    go_enter Try.func5, Try.ntmps5
    go_wp2_with fail
    refine bodyPost_ret (v := .tuple #[.slice none 0 0, .int .i64 1]) ?_ rfl ⟨rfl, rfl⟩
    simp [results, Try.results5]
end Go.Proofs.Ytkggglhnhlclmaa
