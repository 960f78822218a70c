/- Contract of octet.Next where the bytes begin with no record. -/
import Derived.Test.YtkggglhnhlclmaaDoorOctF
import Derived.Test.YtkggglhnhlclmaaDoorOctE3
namespace Go.Proofs.YtkggglhnhlclmaaDoor
open Go.RowKit
set_option linter.unusedVariables false

/-- What Next answers where there is no record. -/
def RetNo (E : Int) (w : World) (e : Ending) (w' : World) : Prop := e = .returned (.tuple #[.int .i64 0, .slice none 0 0, .int .i64 0, .int .i64 E]) ∧ Below w.heap.size w w'
theorem Bs.head {w : World} {g off len c : Nat} {l : List Int} (h : Bs w (.slice (some ⟨g, off, none⟩) (len + 1) c) l) : w.cell? ⟨g, off, none⟩ = some (.int .u8 (l.getD 0 0)) := by
  obtain ⟨p', c', hv, h1, h2, h3, h4⟩ := h
  simp only [Value.slice.injEq] at hv
  obtain ⟨rfl, hl, rfl⟩ := hv
  obtain ⟨g', off', hp, hc⟩ := h4 (by omega)
  simp only [Option.some.injEq, Addr.mk.injEq] at hp
  obtain ⟨rfl, rfl, _⟩ := hp
  exact hc 0 (by omega)
set_option maxRecDepth 100000 in
set_option maxHeartbeats 400000 in
theorem next_nil (p : Option Addr) (c : Nat) (w : World) : Calls Tryd.prog 5 #[.slice p 0 c] w (RetNo 3 w) := by
  go_enter Tryd.func5, Tryd.ntmps5
  go_wp2_with fail
  refine bodyPost_ret (v := .tuple #[.int .i64 0, .slice none 0 0, .int .i64 0, .int .i64 3]) ?_ rfl ⟨rfl, Below.refl _ _⟩
  simp [results, Tryd.results5]
set_option maxRecDepth 100000 in
set_option maxHeartbeats 400000 in
theorem next_zero (g off len c : Nat) (L : List Int) (w : World) (h : Bs w (.slice (some ⟨g, off, none⟩) (len + 1) (c + 1)) L) (hk0 : L.getD 0 0 = 0) : Calls Tryd.prog 5 #[.slice (some ⟨g, off, none⟩) (len + 1) (c + 1)] w (RetNo 2 w) := by
  obtain ⟨hL, hc1, hmax⟩ := h.len
  have hcell := h.head
  rw [hk0] at hcell
  clear h hk0
  go_enter Tryd.func5, Tryd.ntmps5
  go_wp2_with fail
  refine bodyPost_ret (v := .tuple #[.int .i64 0, .slice none 0 0, .int .i64 0, .int .i64 2]) ?_ rfl ⟨rfl, Below.refl _ _⟩
  simp [results, Tryd.results5]
set_option maxRecDepth 100000 in
set_option maxHeartbeats 400000 in
theorem next_one (g off : Nat) (L : List Int) (w : World) (h : Bs w (.slice (some ⟨g, off, none⟩) 1 1) L) (hk0 : L.getD 0 0 ≠ 0) :
    Calls Tryd.prog 5 #[.slice (some ⟨g, off, none⟩) 1 1] w (RetNo 3 w) := by
  have hcell := h.head
  obtain ⟨x, hx⟩ : ∃ x, L.getD 0 0 = x := ⟨_, rfl⟩
  rw [hx] at hcell hk0
  have xb : (x == 0) = false := by simpa using hk0
  have cc := fun p => cutCount_short (.slice p 0 0) [] rfl w ⟨p, 0, rfl, Nat.le_refl _, by decide, (fun _ h => by cases h), fun h => absurd h (Nat.lt_irrefl 0)⟩
  clear hx h
  go_enter Tryd.func5, Tryd.ntmps5
  go_wp2_with fail
  refine (cc _).mono ?_
  rintro e w1 ⟨rfl, b1⟩
  go_wp2_with fail
  refine bodyPost_ret (v := .tuple #[.int .i64 0, .slice none 0 0, .int .i64 0, .int .i64 3]) ?_ rfl ⟨rfl, b1⟩
  simp [results, Tryd.results5]
set_option maxRecDepth 100000 in
set_option maxHeartbeats 400000 in
theorem next_cut (E : Int) (hE : E ≠ 0) (g off len c : Nat) (L : List Int) (w : World) (h : Bs w (.slice (some ⟨g, off, none⟩) (len + 1) (c + 1)) L) (hk0 : L.getD 0 0 ≠ 0) (c0 : ¬ c = 0)
    (cc : Calls Tryd.prog 17 #[.slice (some ⟨g, off + 1, none⟩) len c] w fun e w' => e = .returned (.tuple #[.int .u64 0, .slice none 0 0, .int .i64 E]) ∧ Below w.heap.size w w') :
    Calls Tryd.prog 5 #[.slice (some ⟨g, off, none⟩) (len + 1) (c + 1)] w (RetNo E w) := by
  obtain ⟨hL, hc1, hmax⟩ := h.len
  have hcell := h.head
  obtain ⟨x, hx⟩ : ∃ x, L.getD 0 0 = x := ⟨_, rfl⟩
  rw [hx] at hcell hk0
  have xb : (x == 0) = false := by simpa using hk0
  have hb := h.behind
  obtain ⟨T, hT⟩ : ∃ T, L.drop 1 = T := ⟨_, rfl⟩
  have hTl : T.length = len := by rw [← hT, List.length_drop]; omega
  have eb : (E != 0) = true := by simpa using hE
  clear hT hx hTl hb h
  go_enter Tryd.func5, Tryd.ntmps5
  go_wp2_with fail
  refine cc.mono ?_
  rintro e w1 ⟨rfl, b1⟩
  go_wp2_with fail
  refine bodyPost_ret (v := .tuple #[.int .i64 0, .slice none 0 0, .int .i64 0, .int .i64 E]) ?_ rfl ⟨rfl, b1⟩
  simp [results, Tryd.results5]
set_option maxRecDepth 100000 in
set_option maxHeartbeats 400000 in
theorem next_long (g off len c : Nat) (L : List Int) (w : World) (h : Bs w (.slice (some ⟨g, off, none⟩) (len + 1) (c + 1)) L) (hk0 : L.getD 0 0 ≠ 0) (i n : Nat) (hi : low (L.drop 1) = i) (hil : i < len) (h9 : i < 9) (hz : i = 0 ∨ (L.drop 1).getD i 0 ≠ 0) (hn : grp ((L.drop 1).take (i + 1)) = n) (hn2 : n ≤ 4611686018427387904) (hn4 : 4194304 < n) :
    Calls Tryd.prog 5 #[.slice (some ⟨g, off, none⟩) (len + 1) (c + 1)] w (RetNo 4 w) := by
  obtain ⟨hL, hc1, hmax⟩ := h.len
  have hcell := h.head
  obtain ⟨x, hx⟩ : ∃ x, L.getD 0 0 = x := ⟨_, rfl⟩
  rw [hx] at hcell hk0
  have xb : (x == 0) = false := by simpa using hk0
  have hb := h.behind
  obtain ⟨T, hT⟩ : ∃ T, L.drop 1 = T := ⟨_, rfl⟩
  have hTl : T.length = len := by rw [← hT, List.length_drop]; omega
  rw [hT] at hb hi hz hn
  have cc := cutCount_ok _ T i hi (by omega) h9 hz (by rw [hn]; omega) w hb
  rw [hn] at cc
  obtain ⟨R, hR⟩ : ∃ R, T.drop (i + 1) = R := ⟨_, rfl⟩
  obtain ⟨rl, hrl⟩ : ∃ rl, R.length = rl := ⟨_, rfl⟩
  have hRl : rl = len - (i + 1) := by rw [← hrl, ← hR, List.length_drop]; omega
  rw [hR] at cc
  have c0 : ¬ c = 0 := by omega
  have n4 : (4194304 : Int) < (n : Int) := by omega
  clear hT hi hz hn hR hx hil hRl hTl hb h
  go_enter Tryd.func5, Tryd.ntmps5
  go_wp2_with fail
  refine cc.mono ?_
  rintro e w1 ⟨⟨v1, rfl, hv1⟩, b1⟩
  obtain ⟨p1, c1, rfl⟩ := hv1.shape
  rw [hrl] at hv1 ⊢
  clear hrl
  go_wp2_with fail
  refine bodyPost_ret (v := .tuple #[.int .i64 0, .slice none 0 0, .int .i64 0, .int .i64 4]) ?_ rfl ⟨rfl, b1⟩
  simp [results, Tryd.results5]
set_option maxRecDepth 100000 in
set_option maxHeartbeats 400000 in
theorem next_short (g off len c : Nat) (L : List Int) (w : World) (h : Bs w (.slice (some ⟨g, off, none⟩) (len + 1) (c + 1)) L) (hk0 : L.getD 0 0 ≠ 0) (i n : Nat) (hi : low (L.drop 1) = i) (hil : i < len) (h9 : i < 9) (hz : i = 0 ∨ (L.drop 1).getD i 0 ≠ 0) (hn : grp ((L.drop 1).take (i + 1)) = n) (hn2 : n ≤ 4611686018427387904) (hn4 : n ≤ 4194304) (hlen : len < i + 1 + n + 8) :
    Calls Tryd.prog 5 #[.slice (some ⟨g, off, none⟩) (len + 1) (c + 1)] w (RetNo 3 w) := by
  obtain ⟨hL, hc1, hmax⟩ := h.len
  have hcell := h.head
  obtain ⟨x, hx⟩ : ∃ x, L.getD 0 0 = x := ⟨_, rfl⟩
  rw [hx] at hcell hk0
  have xb : (x == 0) = false := by simpa using hk0
  have hb := h.behind
  obtain ⟨T, hT⟩ : ∃ T, L.drop 1 = T := ⟨_, rfl⟩
  have hTl : T.length = len := by rw [← hT, List.length_drop]; omega
  rw [hT] at hb hi hz hn
  have cc := cutCount_ok _ T i hi (by omega) h9 hz (by rw [hn]; omega) w hb
  rw [hn] at cc
  obtain ⟨R, hR⟩ : ∃ R, T.drop (i + 1) = R := ⟨_, rfl⟩
  obtain ⟨rl, hrl⟩ : ∃ rl, R.length = rl := ⟨_, rfl⟩
  have hRl : rl = len - (i + 1) := by rw [← hrl, ← hR, List.length_drop]; omega
  rw [hR] at cc
  have c0 : ¬ c = 0 := by omega
  have wn : IntKind.i64.wrap (n : Int) = (n : Int) := by rw [IntKind.wrap_i64]; omega
  have n4 : ¬ (4194304 : Int) < (n : Int) := by omega
  have r8 : (rl : Int) < (n : Int) + 8 := by omega
  clear hlen hn4 hn2
  clear hT hi hz hn hR hx hil hRl hTl hb h
  go_enter Tryd.func5, Tryd.ntmps5
  go_wp2_with fail
  refine cc.mono ?_
  rintro e w1 ⟨⟨v1, rfl, hv1⟩, b1⟩
  obtain ⟨p1, c1, rfl⟩ := hv1.shape
  rw [hrl] at hv1 ⊢
  clear hrl
  go_wp2_with fail
  refine bodyPost_ret (v := .tuple #[.int .i64 0, .slice none 0 0, .int .i64 0, .int .i64 3]) ?_ rfl ⟨rfl, b1⟩
  simp [results, Tryd.results5]
end Go.Proofs.YtkggglhnhlclmaaDoor
