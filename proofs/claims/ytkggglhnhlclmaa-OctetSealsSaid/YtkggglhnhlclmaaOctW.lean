/- Next of any bytes: the program's and the document's own answer alike. -/
import Derived.Test.YtkggglhnhlclmaaOctV
import Derived.Test.YtkggglhnhlclmaaOctE3
import Derived.Test.YtkggglhnhlclmaaOctO
namespace Go.Proofs.Ytkggglhnhlclmaa
open Go.RowKit
set_option linter.unusedVariables false

/-- A record is there. -/
def RetOk (k : Int) (bd : List Int) (n : Int) (w : World) (e : Ending) (w' : World) : Prop := (∃ v', e = .returned (.tuple #[.int .i64 k, v', .int .i64 n, .int .i64 0]) ∧ Bs w' v' bd) ∧ Below w.heap.size w w'
theorem Bs.opened {w : World} {v : Value} {l : List Int} {len : Nat} (h : Bs w v l) (hl : l.length = len + 1) : ∃ g off c, v = .slice (some ⟨g, off, none⟩) (len + 1) (c + 1) := by
  obtain ⟨p, c, rfl, h1, h2, h3, h4⟩ := h
  obtain ⟨g, off, rfl, _⟩ := h4 (by omega)
  exact ⟨g, off, c - 1, by rw [hl, show c - 1 + 1 = c by omega]⟩
/-- No record, and why. -/
def BothNo (l : List Int) : Prop := ∃ E : Int, 0 ≤ E ∧ E ≤ 13 ∧ ∀ v w, Bs w v l → Calls Try.prog 11 #[v] w (RetNo E w) ∧ Calls Try.prog 12 #[v] w (RetNo E w)
/-- A record. -/
def BothOk (l : List Int) : Prop := ∃ (k n : Int) (bd : List Int), (∀ v w, Bs w v l → Calls Try.prog 11 #[v] w (RetOk k bd n w) ∧ Calls Try.prog 12 #[v] w (RetOk k bd n w))
theorem next_none {len : Nat} {L : List Int} (hl : L.length = len + 1) (hk0 : L.getD 0 0 ≠ 0) (hlow : low (L.drop 1) = len) : BothNo L := by
  refine ⟨3, by decide, by decide, fun v w h => ?_⟩
  obtain ⟨g, off, c, rfl⟩ := h.opened hl
  refine ⟨?_, refNext_none g off len c L w h hk0 hlow⟩
  rcases Nat.eq_zero_or_pos c with rfl | hc
  · obtain ⟨_, hc1, _⟩ := h.len
    obtain rfl : len = 0 := by omega
    exact next_one g off L w h hk0
  · exact next_cut 3 (by decide) g off len c L w h hk0 (by omega) (cutCount_short _ _ (by rw [hlow, List.length_drop, hl]; rfl) w h.behind)
theorem next_errs {len : Nat} {L : List Int} (hl : L.length = len + 1) (hk0 : L.getD 0 0 ≠ 0) {i : Nat} (hlow : low (L.drop 1) = i) (hil : i < len) (hbad : (0 < i ∧ (L.drop 1).getD i 0 = 0) ∨ (9 ≤ i ∧ (L.drop 1).getD i 0 ≠ 0)) : BothNo L := by
  have hlen : i < (L.drop 1).length := by rw [List.length_drop, hl]; omega
  rcases hbad with ⟨h0, hz⟩ | ⟨h9, hz⟩
  · refine ⟨2, by decide, by decide, fun v w h => ?_⟩
    obtain ⟨g, off, c, rfl⟩ := h.opened hl
    obtain ⟨_, hc1, _⟩ := h.len
    exact ⟨next_cut 2 (by decide) g off len c L w h hk0 (by omega) (cutCount_form _ _ i hlow hlen h0 hz w h.behind), refNext_form g off len c L w h hk0 i hlow hil h0 hz⟩
  · refine ⟨4, by decide, by decide, fun v w h => ?_⟩
    obtain ⟨g, off, c, rfl⟩ := h.opened hl
    obtain ⟨_, hc1, _⟩ := h.len
    exact ⟨next_cut 4 (by decide) g off len c L w h hk0 (by omega) (cutCount_long _ _ i hlow hlen h9 hz w h.behind), refNext_long g off len c L w h hk0 i hlow hil h9 hz⟩
theorem next_sized {len : Nat} {L : List Int} (hl : L.length = len + 1) (hk0 : L.getD 0 0 ≠ 0) {i : Nat} (hlow : low (L.drop 1) = i) (hil : i < len) (h9 : i < 9) (hz : i = 0 ∨ (L.drop 1).getD i 0 ≠ 0) : BothNo L ∨ BothOk L := by
  have hlen : i < (L.drop 1).length := by rw [List.length_drop, hl]; omega
  obtain ⟨n, hn⟩ := Int.eq_ofNat_of_zero_le (grp_bd ((L.drop 1).take (i + 1))).1
  by_cases hbig : 4194304 < n
  · refine .inl ⟨4, by decide, by decide, fun v w h => ?_⟩
    obtain ⟨g, off, c, rfl⟩ := h.opened hl
    obtain ⟨_, hc1, _⟩ := h.len
    refine ⟨?_, refNext_big g off len c L w h hk0 i hlow hil h9 hz n hn hbig⟩
    by_cases h62 : n ≤ 4611686018427387904
    · exact next_long g off len c L w h hk0 i n hlow hil h9 hz hn h62 hbig
    · exact next_cut 4 (by decide) g off len c L w h hk0 (by omega) (cutCount_much _ _ i hlow hlen h9 hz (by rw [hn]; omega) w h.behind)
  by_cases hsh : len < i + 1 + n + 8
  · refine .inl ⟨3, by decide, by decide, fun v w h => ?_⟩
    obtain ⟨g, off, c, rfl⟩ := h.opened hl
    exact ⟨next_short g off len c L w h hk0 i n hlow hil h9 hz hn (by omega) (by omega) hsh, refNext_short g off len c L w h hk0 i hlow hil h9 hz n hn (by omega) hsh⟩
  have e1 : (((L.drop 1).drop (i + 1)).drop n).take 8 = (L.drop (i + 1 + n + 1)).take 8 := by
    rw [List.drop_drop, List.drop_drop, show 1 + (i + 1 + n) = i + 1 + n + 1 by omega]
  by_cases hsum : deb ((L.drop (i + 1 + n + 1)).take 8) = fnv f0 (L.take (i + 1 + n + 1))
  · refine .inr ⟨L.getD 0 0, ((i + n + 10 : Nat) : Int), (L.drop (i + 2)).take n, fun v w h => ?_⟩
    obtain ⟨g, off, c, rfl⟩ := h.opened hl
    have a := next_ok g off len c L w h hk0 i n hlow hil h9 hz hn (by omega) (by omega) (by rw [e1]; exact hsum)
    rw [List.drop_drop, show 1 + (i + 1) = i + 2 by omega] at a
    exact ⟨a, refNext_ok g off len c L w h hk0 i hlow hil h9 hz n hn (by omega) (by omega) hsum⟩
  · refine .inl ⟨13, by decide, by decide, fun v w h => ?_⟩
    obtain ⟨g, off, c, rfl⟩ := h.opened hl
    exact ⟨next_sum g off len c L w h hk0 i n hlow hil h9 hz hn (by omega) (by omega) (by rw [e1]; exact hsum), refNext_sum g off len c L w h hk0 i hlow hil h9 hz n hn (by omega) (by omega) hsum⟩
theorem next_both (L : List Int) : BothNo L ∨ BothOk L := by
  rcases Nat.eq_zero_or_pos L.length with h0 | hpos
  · refine .inl ⟨3, by decide, by decide, fun v w h => ?_⟩
    obtain ⟨p, c, rfl⟩ := h.shape
    rw [h0]
    exact ⟨next_nil p c w, refNext_nil p c w⟩
  obtain ⟨len, hl⟩ : ∃ len, L.length = len + 1 := ⟨L.length - 1, by omega⟩
  by_cases hk0 : L.getD 0 0 = 0
  · refine .inl ⟨2, by decide, by decide, fun v w h => ?_⟩
    obtain ⟨g, off, c, rfl⟩ := h.opened hl
    exact ⟨next_zero g off len c L w h hk0, refNext_zero g off len c L w h hk0⟩
  have hle := low_le (L.drop 1)
  rw [List.length_drop, hl] at hle
  obtain ⟨i, hlow⟩ : ∃ i, low (L.drop 1) = i := ⟨_, rfl⟩
  by_cases hil : i < len
  · by_cases hz : i = 0 ∨ (L.drop 1).getD i 0 ≠ 0
    · by_cases h9 : i < 9
      · exact next_sized hl hk0 hlow hil h9 hz
      · exact .inl (next_errs hl hk0 hlow hil (.inr ⟨by omega, hz.resolve_left (by omega)⟩))
    · have hz' := not_or.1 hz
      exact .inl (next_errs hl hk0 hlow hil (.inl ⟨by omega, Decidable.not_not.1 hz'.2⟩))
  · exact .inl (next_none hl hk0 (by omega))
end Go.Proofs.Ytkggglhnhlclmaa
