/- Contract of (Nat).up: a number times a power of 2. Contracts of (Nat).down and (Nat).Shift: a number divided by a power of 2, moved either way. -/
import Derived.Test.YtjoppmkknbpjbaaDoorCloneAt
import Derived.Test.YtjoppmkknbpjbaaDoorMulAny
namespace Go.Proofs.YtjoppmkknbpjbaaDoor
open Go.RowKit
set_option linter.unusedVariables false

/-- What a number's words are: a slice that is worth n. -/
def WordsIn (w : World) (n : Int) (K : Nat) (v : Value) : Prop := ∃ b t len cap l, v = .slice (some ⟨b, 0, none⟩) len cap ∧ Arr w b t .u64 l ∧ len ≤ l.length ∧ len ≤ K ∧ Words l ∧ val (l.take len) = n
theorem words_in (K : Nat) (hK : 1 ≤ K) (v : Value) (n : Int) (rb : Nat) (t : TypeId) (r0 : Int) (w : World) (hv : IsNat w v n) (hn : n < pw K) (hr : Arr w rb t .u64 [r0]) :
    Calls Tryd.prog 22 #[v, .pointer (some ⟨rb, 0, none⟩)] w fun e w' => (∃ x, e = .returned x ∧ WordsIn w' n K x) ∧ w.grownBy w' (some rb) := by
  rcases hv with ⟨wn, rfl⟩ | ⟨b, s, len, cap, l, rfl, ha, h2, h3, h4, h5, hw, hz, rfl⟩
  · refine (words_word n wn rb t r0 w hr).mono ?_
    rintro e w' ⟨rfl, hx, hg⟩
    have htl := trimLen_le [n] 1
    exact ⟨⟨_, rfl, rb, t, _, _, [n], rfl, hx, by simpa using htl, by omega, Words.cons wn Words.nil, by rw [val_trim [n] 1 (by simp)]; simp [val]⟩, hg⟩
  · refine (words_many b len cap _ w).mono ?_
    rintro e w' ⟨rfl, hb⟩
    exact ⟨⟨_, rfl, b, s, len, cap, l, rfl, ha.below hb ha.lt, by omega, len_le hw (by omega) (by omega) hz hn, hw, rfl⟩, grownBy_below hb (Nat.le_refl _) _⟩

/-- What a row is worth whose lowest q words are noughts. -/
theorem val_up {lk lx : List Int} {q n r : Nat} {X : Int} (hl : lk.length = q + (n + 1)) (h0 : ∀ j, j < q → lk.getD j 0 = 0) (hs : seg lk q (n + 1) = seg lx 0 n * 2 ^ r) (hk : val (lx.take n) = X) :
    val (lk.take (q + (n + 1))) = X * 2 ^ (64 * q + r) := by
  rw [← seg_all, seg_add (by omega), Nat.zero_add, hs, seg_all lx, hk]
  have e : seg lk 0 q = 0 := by
    rw [seg_congr (l' := List.replicate q 0) (by omega) (by simp) (fun j h1 h2 => by rw [h0 j (by omega)]; simp [List.getD_eq_getElem?_getD, List.getElem?_replicate]; split <;> rfl)]
    rw [seg_all, List.take_of_length_le (by simp), val_replicate]
  rw [e, pw_two, pow_add_mul]
  rw [Int.zero_add, Int.mul_comm, Int.mul_assoc, Int.mul_comm (2 ^ r)]

set_option maxRecDepth 100000 in
set_option maxHeartbeats 1000000 in
theorem up_word (n : Int) (hn : Word n) (k : Nat) (hk : k < 64) (w : World) :
    Calls Tryd.prog 30 #[.agg #[.int .u64 n, .slice none 0 0], .int .i64 k] w (RetNat (n * 2 ^ k) w) := by
  have e1 := eqnil
  obtain ⟨k1, k2, k3⟩ := shift_parts hn (show k ≤ 63 by omega)
  have wl : Word (IntKind.u64.wrap (n * 2 ^ k)) := by rw [IntKind.wrap_u64]; exact ⟨by omega, by omega⟩
  have wh : Word (n / 2 ^ (64 - k)) := ⟨k2, by
    have h1 := two_pow_mono (show k ≤ 64 by omega)
    have h2 : (2 : Int) ^ 64 = 18446744073709551616 := by decide
    omega⟩
  have q1 : (64 - (k : Int)).toNat = 64 - k := by omega
  obtain ⟨lo, hlo⟩ : ∃ lo, IntKind.u64.wrap (n * 2 ^ k) = lo := ⟨_, rfl⟩
  obtain ⟨hi, hhi⟩ : ∃ hi, n / 2 ^ (64 - k) = hi := ⟨_, rfl⟩
  have hpost : n * 2 ^ k = lo + 18446744073709551616 * hi := by rw [← hlo, ← hhi]; omega
  rw [hpost]
  rw [hlo] at wl
  rw [hhi] at wh
  clear k1 k2 k3 hpost
  have v0 : Var ((w.alloc (.cells #[.int .u64 n, .slice none 0 0] 25)).alloc (.cells #[.int .u64 0, .slice none 0 0] 25)) w.heap.size (.int .u64 n) (.slice none 0 0) := (Var.new w w.heap.size _ _ _ _ rfl).alloc _
  have v1 : Var ((w.alloc (.cells #[.int .u64 n, .slice none 0 0] 25)).alloc (.cells #[.int .u64 0, .slice none 0 0] 25)) (w.heap.size + 1) (.int .u64 0) (.slice none 0 0) := Var.new (w.alloc _) _ _ _ _ _ (by simp)
  have hW : Below w.heap.size w ((w.alloc (.cells #[.int .u64 n, .slice none 0 0] 25)).alloc (.cells #[.int .u64 0, .slice none 0 0] 25)) := by go_grown
  have c00 := v0.c0
  have z0 := v0.lt
  go_enter Tryd.func30, Tryd.ntmps30
  go_wp2_with fail
  generalize ((w.alloc (.cells #[.int .u64 n, .slice none 0 0] 25)).alloc (.cells #[.int .u64 0, .slice none 0 0] 25)) = W at hW v0 v1 c00 z0 ⊢
  have acc := Below.refl W.heap.size W
  have d01 : w.heap.size ≠ w.heap.size + 1 := by omega
  have q2 : IntKind.i64.wrap (64 - (k : Int)) = 64 - (k : Int) := IntWalk.i64_in _ (by omega)
  have q3 : (0 : Int) ≤ 64 - (k : Int) := by omega
  go_region_held3 (fun w' => w'.cell? ⟨w.heap.size, 0, none⟩ = some (.int .u64 n))
    (first | with_reducible exact (v0.below acc z0).c0 | with_reducible exact (v0.below acc z0).drew.c0 | with_reducible exact (((v0.below acc z0).other d01 _).other d01 _).c0)
    ((go_at_call 37; have q := pair_word hi lo wh wl W; have q2 := pair_word hi lo wh wl W.drew; (first | with_reducible refine q.mono ?_ | with_reducible refine q2.mono ?_); clear q q2; rintro e w' ⟨v, rfl, hv, hb⟩; obtain ⟨xa, xp, xl, xc, rfl⟩ := hv.shape; (first | replace acc := below_acc acc acc.size hb | replace acc := below_accD acc acc.size hb); have z1 := v1.lt; have c10 := (v1.below acc z1).c0; have c11 := (v1.below acc z1).c1; have f10 := (v1.below acc z1).free 0; have f11 := (v1.below acc z1).free 1))
  all_goals
    go_wp2
    exact bodyPost_var Tryd.results30 rfl rfl ((v1.below acc v1.lt).set _ _ _ _) (hv.two (v1.below acc v1.lt) _ _) (below_two (hW.trans (acc.mono hW.size)) (by omega) _ _)

set_option maxRecDepth 100000 in
set_option maxHeartbeats 1000000 in
theorem up_some (K : Nat) (hK : 1 ≤ K) (hK2 : K ≤ 1048576) (x1 : Int) (a1 : Addr) (m1 k1 : Nat) (n : Int) (q r : Nat) (hr : r ≤ 63) (hq : q ≤ 1048576) (w : World) (h1 : IsNat w (.agg #[.int .u64 x1, .slice (some a1) m1 k1]) n) (hn : n < pw K) :
    Calls Tryd.prog 30 #[.agg #[.int .u64 x1, .slice (some a1) m1 k1], .int .i64 ((64 * q + r : Nat) : Int)] w (RetNat (n * 2 ^ (64 * q + r)) w) := by
  have e1 := eqnil
  obtain ⟨k, hk⟩ : ∃ k, 64 * q + r = k := ⟨_, rfl⟩
  have d1 : ((k : Nat) : Int) / 64 = (q : Int) := by omega
  have d2 : ((k : Nat) : Int) % 64 = (r : Int) := by omega
  have d3 : 0 ≤ (k : Int) := by omega
  have d4 : (k : Int) ≤ 134217727 := by omega
  have d5 : 0 ≤ (q : Int) := by omega
  rw [hk]
  have Hk := Lib.hid hk
  clear hk
  have hW : Below w.heap.size w (((w.alloc (.cells #[.int .u64 x1, .slice (some a1) m1 k1] 25)).alloc (.cells #[.int .u64 0, .slice none 0 0] 25)).alloc (.cells #[.int .u64 0] 45)) := by go_grown
  have v0 : Var (((w.alloc (.cells #[.int .u64 x1, .slice (some a1) m1 k1] 25)).alloc (.cells #[.int .u64 0, .slice none 0 0] 25)).alloc (.cells #[.int .u64 0] 45)) w.heap.size (.int .u64 x1) (.slice (some a1) m1 k1) := ((Var.new w w.heap.size _ _ _ _ rfl).alloc _).alloc _
  have v1 : Var (((w.alloc (.cells #[.int .u64 x1, .slice (some a1) m1 k1] 25)).alloc (.cells #[.int .u64 0, .slice none 0 0] 25)).alloc (.cells #[.int .u64 0] 45)) (w.heap.size + 1) (.int .u64 0) (.slice none 0 0) := (Var.new (w.alloc _) _ _ _ _ _ (by simp)).alloc _
  have r2 : Arr (((w.alloc (.cells #[.int .u64 x1, .slice (some a1) m1 k1] 25)).alloc (.cells #[.int .u64 0, .slice none 0 0] 25)).alloc (.cells #[.int .u64 0] 45)) (w.heap.size + 1 + 1) 45 .u64 [0] := Arr.new _ _ _ [0] _ (by simp)
  have g1 := h1.below hW
  go_enter Tryd.func30, Tryd.ntmps30
  go_wp2_with fail
  generalize (((w.alloc (.cells #[.int .u64 x1, .slice (some a1) m1 k1] 25)).alloc (.cells #[.int .u64 0, .slice none 0 0] 25)).alloc (.cells #[.int .u64 0] 45)) = W at hW v0 v1 r2 g1 ⊢
  have zr := r2.lt
  refine (words_in K hK _ n (w.heap.size + 1 + 1) 45 0 W g1 hn r2).mono ?_
  rintro e w1 ⟨⟨_, rfl, b, t, len, cap, l, rfl, ha, hl, hlK, hw, hv⟩, hg⟩
  have hB1 : Below w.heap.size w w1 := hW.grown hg hW.size (fun j e => by cases e; omega)
  have u1 : Var w1 (w.heap.size + 1) (.int .u64 0) (.slice none 0 0) := v1.grown hg (by simp)
  have hz := hg.size
  clear hg g1 v0 v1 r2 hW h1
  have hmk := make64 (q + (len + 1)) ((q : Int) + len + 1) (by omega) (by omega)
  have hz2 : (q : Int) ≤ ((q + (len + 1) : Nat) : Int) := by omega
  have hz3 : w.heap.size + 1 + 1 < w1.heap.size := by omega
  clear hz
  go_wp2_with fail
  have hA : Arr (w1.alloc (.cells (zeros .u64 (q + (len + 1))) 22)) w1.heap.size 22 .u64 (List.replicate (q + (len + 1)) 0) := Arr.zeros w1 _ _ _ _ rfl
  have u2 := u1.alloc (.cells (zeros .u64 (q + (len + 1))) 22)
  have ha2 := ha.alloc (.cells (zeros .u64 (q + (len + 1))) 22)
  have hB2 : Below w.heap.size w (w1.alloc (.cells (zeros .u64 (q + (len + 1))) 22)) := hB1.alloc (by omega) _
  have ne : b ≠ w1.heap.size := Nat.ne_of_lt ha.lt
  have hz4 : w1.heap.size < (w1.alloc (.cells (zeros .u64 (q + (len + 1))) 22)).heap.size := by simp
  generalize (w1.alloc (.cells (zeros .u64 (q + (len + 1))) 22)) = W2 at hA u2 ha2 hB2 hz4 ⊢
  generalize w1.heap.size = g at hA ne hz3 hz4 ⊢
  clear hmk u1 hB1 ha
  refine (shiftUp_any g 22 q (len + 1) (len + 1) b cap len r t (List.replicate (q + (len + 1)) 0) l W2 hA ha2 ne (Nat.le_refl _) (by simp) hl (by omega) (Words.replicate _) hw hr).mono ?_
  rintro e w3 ⟨rfl, lk, hk1, hk2, hk3, hk4, hk5, hg⟩
  have hB3 : Below w.heap.size w w3 := hB2.grown hg hB2.size (fun j e => by cases e; omega)
  have u3 : Var w3 (w.heap.size + 1) (.int .u64 0) (.slice none 0 0) := u2.grown hg (by simp; omega)
  have hval := val_up (X := n) (q := q) (n := len) (r := r) (lk := lk) (lx := l) (by simpa using hk2) (fun j hj => by rw [hk4 j (.inl hj)]; simp [List.getD_eq_getElem?_getD, List.getElem?_replicate]; split <;> rfl) hk5 hv
  rw [Hk.out] at hval
  have Hval := Lib.hid hval
  have md := made_any g 22 (q + (len + 1)) (q + (len + 1)) lk w3 hk1 (Nat.le_refl _) (by simp at hk2; omega) (by omega) hk3
  clear hval hk4 hk5 hk2 hg hB2 u2
  go_wp2_with fail
  refine md.mono ?_
  rintro e w4 ⟨v, rfl, hv4, hb4⟩
  obtain ⟨xa, xp, xl, xc, rfl⟩ := hv4.shape
  rw [Hval.out] at hv4
  have u4 := u3.below hb4 u3.lt
  have c10 := u4.c0
  have c11 := u4.c1
  have f10 := u4.free 0
  have f11 := u4.free 1
  have hB4 := hB3.trans (hb4.mono hB3.size)
  clear md
  go_wp2_with fail
  exact bodyPost_var Tryd.results30 rfl rfl (u4.set _ _ _ _) (hv4.two u4 _ _) (below_two hB4 (by omega) _ _)

set_option maxRecDepth 100000 in
set_option maxHeartbeats 1000000 in
theorem up_wide (K : Nat) (hK : 1 ≤ K) (hK2 : K ≤ 1048576) (x1 : Int)  (n : Int) (q r : Nat) (hr : r ≤ 63) (hq : q ≤ 1048576) (hq1 : 1 ≤ q) (w : World) (h1 : IsNat w (.agg #[.int .u64 x1, .slice none 0 0]) n) (hn : n < pw K) :
    Calls Tryd.prog 30 #[.agg #[.int .u64 x1, .slice none 0 0], .int .i64 ((64 * q + r : Nat) : Int)] w (RetNat (n * 2 ^ (64 * q + r)) w) := by
  have e1 := eqnil
  obtain ⟨k, hk⟩ : ∃ k, 64 * q + r = k := ⟨_, rfl⟩
  have d1 : ((k : Nat) : Int) / 64 = (q : Int) := by omega
  have d2 : ((k : Nat) : Int) % 64 = (r : Int) := by omega
  have d3 : 0 ≤ (k : Int) := by omega
  have d4 : (k : Int) ≤ 134217727 := by omega
  have d5 : 0 ≤ (q : Int) := by omega
  have d6 : ¬ (k : Int) < 64 := by omega
  rw [hk]
  have Hk := Lib.hid hk
  clear hk
  have hW : Below w.heap.size w (((w.alloc (.cells #[.int .u64 x1, .slice none 0 0] 25)).alloc (.cells #[.int .u64 0, .slice none 0 0] 25)).alloc (.cells #[.int .u64 0] 45)) := by go_grown
  have v0 : Var (((w.alloc (.cells #[.int .u64 x1, .slice none 0 0] 25)).alloc (.cells #[.int .u64 0, .slice none 0 0] 25)).alloc (.cells #[.int .u64 0] 45)) w.heap.size (.int .u64 x1) (.slice none 0 0) := ((Var.new w w.heap.size _ _ _ _ rfl).alloc _).alloc _
  have v1 : Var (((w.alloc (.cells #[.int .u64 x1, .slice none 0 0] 25)).alloc (.cells #[.int .u64 0, .slice none 0 0] 25)).alloc (.cells #[.int .u64 0] 45)) (w.heap.size + 1) (.int .u64 0) (.slice none 0 0) := (Var.new (w.alloc _) _ _ _ _ _ (by simp)).alloc _
  have r2 : Arr (((w.alloc (.cells #[.int .u64 x1, .slice none 0 0] 25)).alloc (.cells #[.int .u64 0, .slice none 0 0] 25)).alloc (.cells #[.int .u64 0] 45)) (w.heap.size + 1 + 1) 45 .u64 [0] := Arr.new _ _ _ [0] _ (by simp)
  have g1 := h1.below hW
  go_enter Tryd.func30, Tryd.ntmps30
  go_wp2_with fail
  generalize (((w.alloc (.cells #[.int .u64 x1, .slice none 0 0] 25)).alloc (.cells #[.int .u64 0, .slice none 0 0] 25)).alloc (.cells #[.int .u64 0] 45)) = W at hW v0 v1 r2 g1 ⊢
  have zr := r2.lt
  refine (words_in K hK _ n (w.heap.size + 1 + 1) 45 0 W g1 hn r2).mono ?_
  rintro e w1 ⟨⟨_, rfl, b, t, len, cap, l, rfl, ha, hl, hlK, hw, hv⟩, hg⟩
  have hB1 : Below w.heap.size w w1 := hW.grown hg hW.size (fun j e => by cases e; omega)
  have u1 : Var w1 (w.heap.size + 1) (.int .u64 0) (.slice none 0 0) := v1.grown hg (by simp)
  have hz := hg.size
  clear hg g1 v0 v1 r2 hW h1
  have hmk := make64 (q + (len + 1)) ((q : Int) + len + 1) (by omega) (by omega)
  have hz2 : (q : Int) ≤ ((q + (len + 1) : Nat) : Int) := by omega
  have hz3 : w.heap.size + 1 + 1 < w1.heap.size := by omega
  clear hz
  go_wp2_with fail
  have hA : Arr (w1.alloc (.cells (zeros .u64 (q + (len + 1))) 22)) w1.heap.size 22 .u64 (List.replicate (q + (len + 1)) 0) := Arr.zeros w1 _ _ _ _ rfl
  have u2 := u1.alloc (.cells (zeros .u64 (q + (len + 1))) 22)
  have ha2 := ha.alloc (.cells (zeros .u64 (q + (len + 1))) 22)
  have hB2 : Below w.heap.size w (w1.alloc (.cells (zeros .u64 (q + (len + 1))) 22)) := hB1.alloc (by omega) _
  have ne : b ≠ w1.heap.size := Nat.ne_of_lt ha.lt
  have hz4 : w1.heap.size < (w1.alloc (.cells (zeros .u64 (q + (len + 1))) 22)).heap.size := by simp
  generalize (w1.alloc (.cells (zeros .u64 (q + (len + 1))) 22)) = W2 at hA u2 ha2 hB2 hz4 ⊢
  generalize w1.heap.size = g at hA ne hz3 hz4 ⊢
  clear hmk u1 hB1 ha
  refine (shiftUp_any g 22 q (len + 1) (len + 1) b cap len r t (List.replicate (q + (len + 1)) 0) l W2 hA ha2 ne (Nat.le_refl _) (by simp) hl (by omega) (Words.replicate _) hw hr).mono ?_
  rintro e w3 ⟨rfl, lk, hk1, hk2, hk3, hk4, hk5, hg⟩
  have hB3 : Below w.heap.size w w3 := hB2.grown hg hB2.size (fun j e => by cases e; omega)
  have u3 : Var w3 (w.heap.size + 1) (.int .u64 0) (.slice none 0 0) := u2.grown hg (by simp; omega)
  have hval := val_up (X := n) (q := q) (n := len) (r := r) (lk := lk) (lx := l) (by simpa using hk2) (fun j hj => by rw [hk4 j (.inl hj)]; simp [List.getD_eq_getElem?_getD, List.getElem?_replicate]; split <;> rfl) hk5 hv
  rw [Hk.out] at hval
  have Hval := Lib.hid hval
  have md := made_any g 22 (q + (len + 1)) (q + (len + 1)) lk w3 hk1 (Nat.le_refl _) (by simp at hk2; omega) (by omega) hk3
  clear hval hk4 hk5 hk2 hg hB2 u2
  go_wp2_with fail
  refine md.mono ?_
  rintro e w4 ⟨v, rfl, hv4, hb4⟩
  obtain ⟨xa, xp, xl, xc, rfl⟩ := hv4.shape
  rw [Hval.out] at hv4
  have u4 := u3.below hb4 u3.lt
  have c10 := u4.c0
  have c11 := u4.c1
  have f10 := u4.free 0
  have f11 := u4.free 1
  have hB4 := hB3.trans (hb4.mono hB3.size)
  clear md
  go_wp2_with fail
  exact bodyPost_var Tryd.results30 rfl rfl (u4.set _ _ _ _) (hv4.two u4 _ _) (below_two hB4 (by omega) _ _)

theorem up_any (K : Nat) (hK : 1 ≤ K) (hK2 : K ≤ 1048576) (v : Value) (n : Int) (k : Nat) (hk : k ≤ 67108864) (w : World) (h : IsNat w v n) (hn : n < pw K) :
    Calls Tryd.prog 30 #[v, .int .i64 k] w (RetNat (n * 2 ^ k) w) := by
  have e : k = 64 * (k / 64) + k % 64 := by omega
  have h2 := h
  rcases h2 with ⟨wn, rfl⟩ | ⟨b, s, len, cap, l, rfl, r⟩
  · by_cases hlt : k < 64
    · exact up_word n wn k hlt w
    · rw [e]
      exact up_wide K hK hK2 n n (k / 64) (k % 64) (by omega) (by omega) (by omega) w h hn
  · rw [e]
    exact up_some K hK hK2 0 _ len cap n (k / 64) (k % 64) (by omega) (by omega) w h hn
end Go.Proofs.YtjoppmkknbpjbaaDoor

namespace Go.Proofs.YtjoppmkknbpjbaaDoor
open Go.RowKit
set_option linter.unusedVariables false

set_option maxRecDepth 100000 in
theorem down_word (n : Int) (hn : Word n) (k : Nat) (w : World) :
    Calls Tryd.prog 29 #[.agg #[.int .u64 n, .slice none 0 0], .int .i64 k] w (RetNat (n / 2 ^ k) w) := by
  have e1 := eqnil
  have hd : Word (n / 2 ^ k) := by
    have h1 : (0 : Int) < 2 ^ k := Int.pow_pos (by decide)
    exact ⟨Int.ediv_nonneg hn.1 (by omega), Int.lt_of_le_of_lt (Int.ediv_le_self _ hn.1) hn.2⟩
  have hmk : n / 2 ^ min k 64 = n / 2 ^ k := by
    by_cases h : k ≤ 64
    · rw [Nat.min_eq_left h]
    · have h64 : (2 : Int) ^ 64 = 18446744073709551616 := by decide
      have h1 := two_pow_mono (show 64 ≤ k by omega)
      rw [Nat.min_eq_right (by omega), Int.ediv_eq_zero_of_lt hn.1 (by rw [h64]; exact hn.2), Int.ediv_eq_zero_of_lt hn.1 (by have := hn.2; omega)]
  obtain ⟨d, hdd⟩ : ∃ d, n / 2 ^ k = d := ⟨_, rfl⟩
  rw [hdd] at hd hmk
  rw [hdd]
  clear hdd
  have v1 : Var ((w.alloc (.cells #[.int .u64 n, .slice none 0 0] 25)).alloc (.cells #[.int .u64 d, .slice none 0 0] 25)) (w.heap.size + 1) (.int .u64 d) (.slice none 0 0) := Var.new (w.alloc _) _ _ _ _ _ (by simp)
  have hW : Below w.heap.size w ((w.alloc (.cells #[.int .u64 n, .slice none 0 0] 25)).alloc (.cells #[.int .u64 d, .slice none 0 0] 25)) := by go_grown
  go_enter Tryd.func29, Tryd.ntmps29
  go_wp2
  exact bodyPost_var Tryd.results29 rfl rfl v1 (IsNat.word hd) hW

set_option maxRecDepth 100000 in
set_option maxHeartbeats 1000000 in
theorem down_part (b s len cap : Nat) (l : List Int) (q r : Nat) (hr : r ≤ 63) (hq : q ≤ 1048576) (hql : q < len) (w : World) (ha : Arr w b s .u64 l) (hp : 2 ≤ len) (hc : len ≤ cap) (hl : cap ≤ l.length) (hm : len ≤ 1048576) (hw : Words l) :
    Calls Tryd.prog 29 #[.agg #[.int .u64 0, .slice (some ⟨b, 0, none⟩) len cap], .int .i64 ((64 * q + r : Nat) : Int)] w (RetNat (val (l.take len) / 2 ^ (64 * q + r)) w) := by
  have e1 := eqnil
  obtain ⟨k, hk⟩ : ∃ k, 64 * q + r = k := ⟨_, rfl⟩
  have d1 : ((k : Nat) : Int) / 64 = (q : Int) := by omega
  have d2 : ((k : Nat) : Int) % 64 = (r : Int) := by omega
  have d3 : 0 ≤ (k : Int) := by omega
  have d4 : (k : Int) ≤ 134217727 := by omega
  have d5 : 0 ≤ (q : Int) := by omega
  have hmin : min (q : Int) (len : Int) = (q : Int) := by omega
  have hqc : (q : Int) ≤ (len : Int) := by omega
  have hqcap : q < cap := by omega
  rw [hk]
  have Hk := Lib.hid hk
  have Hl := Lib.hid hl
  have Hc := Lib.hid hc
  clear hk
  have hW : Below w.heap.size w ((w.alloc (.cells #[.int .u64 0, .slice (some ⟨b, 0, none⟩) len cap] 25)).alloc (.cells #[.int .u64 0, .slice none 0 0] 25)) := by go_grown
  have v0 : Var ((w.alloc (.cells #[.int .u64 0, .slice (some ⟨b, 0, none⟩) len cap] 25)).alloc (.cells #[.int .u64 0, .slice none 0 0] 25)) w.heap.size (.int .u64 0) (.slice (some ⟨b, 0, none⟩) len cap) := (Var.new w w.heap.size _ _ _ _ rfl).alloc _
  have v1 : Var ((w.alloc (.cells #[.int .u64 0, .slice (some ⟨b, 0, none⟩) len cap] 25)).alloc (.cells #[.int .u64 0, .slice none 0 0] 25)) (w.heap.size + 1) (.int .u64 0) (.slice none 0 0) := Var.new (w.alloc _) _ _ _ _ _ (by simp)
  have ha1 := ha.below hW ha.lt
  have c01 := v0.c1
  go_enter Tryd.func29, Tryd.ntmps29
  go_wp2_with fail
  generalize ((w.alloc (.cells #[.int .u64 0, .slice (some ⟨b, 0, none⟩) len cap] 25)).alloc (.cells #[.int .u64 0, .slice none 0 0] 25)) = W at hW v0 v1 ha1 c01 ⊢
  have M1 : ((l.take len).drop q).length = len - q := by rw [List.length_drop, List.length_take]; omega
  have M2 : ∀ j, j < len - q → l.getD (q + j) 0 = ((l.take len).drop q).getD j 0 := fun j hj => by rw [getD_drop, getD_takeW, if_pos (by omega)]
  have M3 := val_drop hw (Nat.le_of_lt hql) (show len ≤ l.length by omega)
  have M4 : Words ((l.take len).drop q) := (hw.take _).drop _
  generalize (l.take len).drop q = M at M1 M2 M3 M4
  have cl := clone_at b s q (len - q) (cap - q) l M W ha1 (by omega) M1 M2 (by omega) (by omega)
  have M5 := Lib.hid M3
  clear M2 M3
  go_wp2_with fail
  refine cl.mono ?_
  clear cl
  rintro e w1 ⟨g, cap2, z, rfl, hA, hcap, hgs, hb1⟩
  have Hcap := Lib.hid hcap
  clear hcap
  have WL : Words (M ++ List.replicate z 0) := M4.append (Words.replicate z)
  have hB1 := hW.trans (hb1.mono hW.size)
  have u1 := v1.below hb1 v1.lt
  have hsz := hW.size
  have hlt1 := v1.lt
  clear hb1 v0 v1 hW c01 d1 hmin hqc hqcap
  go_wp2_with fail
  refine (shiftDown_any g 22 (len - q) cap2 r (M ++ List.replicate z 0) w1 hA (by simp; omega) (by omega) WL hr).mono ?_
  rintro e w2 ⟨rfl, lk, hk1, hk2, hk3, hk4, hk5, hg⟩
  have hB2 := hB1.grown hg hB1.size (fun j e => by cases e; omega)
  have u2 : Var w2 (w.heap.size + 1) (.int .u64 0) (.slice none 0 0) := u1.grown hg (by simp; omega)
  have hval : val (lk.take (len - q)) = val (l.take len) / 2 ^ k := by
    rw [← seg_all, hk5, seg_all, List.take_append_of_le_length (by omega), List.take_of_length_le (by omega), M5.out, ← div_pow_add, Hk.out]
  have Hval := Lib.hid hval
  have md := made_any g 22 (len - q) cap2 lk w2 hk1 (by have := Hcap.out; omega) (by have := Hcap.out; simp at hk2; omega) (by omega) hk3
  clear hval hk4 hk5 hg hB1 u1
  go_wp2_with fail
  refine md.mono ?_
  rintro e w4 ⟨v, rfl, hv4, hb4⟩
  obtain ⟨xa, xp, xl, xc, rfl⟩ := hv4.shape
  rw [Hval.out] at hv4
  have u4 := u2.below hb4 u2.lt
  have c10 := u4.c0
  have c11 := u4.c1
  have f10 := u4.free 0
  have f11 := u4.free 1
  have hB4 := hB2.trans (hb4.mono hB2.size)
  clear md
  go_wp2_with fail
  exact bodyPost_var Tryd.results29 rfl rfl (u4.set _ _ _ _) (hv4.two u4 _ _) (below_two hB4 (by omega) _ _)

set_option maxRecDepth 100000 in
set_option maxHeartbeats 1000000 in
theorem down_over1 (b s len : Nat) (l : List Int) (q r : Nat) (hr : r ≤ 63) (hq : q ≤ 1048576) (hql : len ≤ q) (w : World) (ha : Arr w b s .u64 l) (hp : 2 ≤ len) (hl : len ≤ l.length) (hm : len ≤ 1048576) (hw : Words l) :
    Calls Tryd.prog 29 #[.agg #[.int .u64 0, .slice (some ⟨b, 0, none⟩) len len], .int .i64 ((64 * q + r : Nat) : Int)] w (RetNat (val (l.take len) / 2 ^ (64 * q + r)) w) := by
  have e1 := eqnil
  obtain ⟨k, hk⟩ : ∃ k, 64 * q + r = k := ⟨_, rfl⟩
  have d1 : ((k : Nat) : Int) / 64 = (q : Int) := by omega
  have d2 : ((k : Nat) : Int) % 64 = (r : Int) := by omega
  have d3 : 0 ≤ (k : Int) := by omega
  have d4 : (k : Int) ≤ 134217727 := by omega
  have d5 : 0 ≤ (q : Int) := by omega
  have hmin : min (q : Int) (len : Int) = (len : Int) := by omega
  rw [hk]
  have Hk := Lib.hid hk
  have Hl := Lib.hid hl
  clear hk
  have hW : Below w.heap.size w ((w.alloc (.cells #[.int .u64 0, .slice (some ⟨b, 0, none⟩) len len] 25)).alloc (.cells #[.int .u64 0, .slice none 0 0] 25)) := by go_grown
  have v0 : Var ((w.alloc (.cells #[.int .u64 0, .slice (some ⟨b, 0, none⟩) len len] 25)).alloc (.cells #[.int .u64 0, .slice none 0 0] 25)) w.heap.size (.int .u64 0) (.slice (some ⟨b, 0, none⟩) len len) := (Var.new w w.heap.size _ _ _ _ rfl).alloc _
  have v1 : Var ((w.alloc (.cells #[.int .u64 0, .slice (some ⟨b, 0, none⟩) len len] 25)).alloc (.cells #[.int .u64 0, .slice none 0 0] 25)) (w.heap.size + 1) (.int .u64 0) (.slice none 0 0) := Var.new (w.alloc _) _ _ _ _ _ (by simp)
  have ha1 := ha.below hW ha.lt
  have c01 := v0.c1
  go_enter Tryd.func29, Tryd.ntmps29
  go_wp2_with fail
  generalize ((w.alloc (.cells #[.int .u64 0, .slice (some ⟨b, 0, none⟩) len len] 25)).alloc (.cells #[.int .u64 0, .slice none 0 0] 25)) = W at hW v0 v1 ha1 c01 ⊢
  have hfin : val (l.take len) / 2 ^ k = 0 := by
    have h1 := val_bd (hw.take len)
    rw [List.length_take, Nat.min_eq_left (by omega)] at h1
    exact div_small h1.1 h1.2 (by have := Hk.out; omega)
  have Hfin := Lib.hid hfin
  clear hfin
  go_wp2_with fail
  refine (clone_none _ _ W).mono ?_
  rintro e w1 ⟨rfl, hA, hb1⟩
  have hgs : W.heap.size ≤ W.heap.size := Nat.le_refl _
  have hB1 := hW.trans (hb1.mono hW.size)
  have u1 := v1.below hb1 v1.lt
  have hsz := hW.size
  have hlt1 := v1.lt
  clear hb1 v0 v1 hW c01 d1 hmin
  go_wp2_with fail
  refine (shiftDown_any W.heap.size 22 0 0 r ([]) w1 hA (Nat.le_refl _) (by omega) Words.nil hr).mono ?_
  rintro e w2 ⟨rfl, lk, hk1, hk2, hk3, hk4, hk5, hg⟩
  have hB2 := hB1.grown hg hB1.size (fun j e => by cases e; omega)
  have u2 : Var w2 (w.heap.size + 1) (.int .u64 0) (.slice none 0 0) := u1.grown hg (by simp; omega)
  have hval : val (lk.take 0) = val (l.take len) / 2 ^ k := by
    rw [Hfin.out]; rfl
  have Hval := Lib.hid hval
  have md := made_any W.heap.size 22 0 0 lk w2 hk1 (Nat.le_refl _) (Nat.zero_le _) (by omega) hk3
  clear hval hk4 hk5 hg hB1 u1
  go_wp2_with fail
  refine md.mono ?_
  rintro e w4 ⟨v, rfl, hv4, hb4⟩
  obtain ⟨xa, xp, xl, xc, rfl⟩ := hv4.shape
  rw [Hval.out] at hv4
  have u4 := u2.below hb4 u2.lt
  have c10 := u4.c0
  have c11 := u4.c1
  have f10 := u4.free 0
  have f11 := u4.free 1
  have hB4 := hB2.trans (hb4.mono hB2.size)
  clear md
  go_wp2_with fail
  exact bodyPost_var Tryd.results29 rfl rfl (u4.set _ _ _ _) (hv4.two u4 _ _) (below_two hB4 (by omega) _ _)

set_option maxRecDepth 100000 in
set_option maxHeartbeats 1000000 in
theorem down_over2 (b s len cap : Nat) (l : List Int) (q r : Nat) (hr : r ≤ 63) (hq : q ≤ 1048576) (hql : len ≤ q) (w : World) (ha : Arr w b s .u64 l) (hp : 2 ≤ len) (hc : len < cap) (hl : cap ≤ l.length) (hm : len ≤ 1048576) (hw : Words l) :
    Calls Tryd.prog 29 #[.agg #[.int .u64 0, .slice (some ⟨b, 0, none⟩) len cap], .int .i64 ((64 * q + r : Nat) : Int)] w (RetNat (val (l.take len) / 2 ^ (64 * q + r)) w) := by
  have e1 := eqnil
  obtain ⟨k, hk⟩ : ∃ k, 64 * q + r = k := ⟨_, rfl⟩
  have d1 : ((k : Nat) : Int) / 64 = (q : Int) := by omega
  have d2 : ((k : Nat) : Int) % 64 = (r : Int) := by omega
  have d3 : 0 ≤ (k : Int) := by omega
  have d4 : (k : Int) ≤ 134217727 := by omega
  have d5 : 0 ≤ (q : Int) := by omega
  have hmin : min (q : Int) (len : Int) = (len : Int) := by omega
  rw [hk]
  have Hk := Lib.hid hk
  have Hl := Lib.hid hl
  have Hc := Lib.hid hc
  clear hk
  have hW : Below w.heap.size w ((w.alloc (.cells #[.int .u64 0, .slice (some ⟨b, 0, none⟩) len cap] 25)).alloc (.cells #[.int .u64 0, .slice none 0 0] 25)) := by go_grown
  have v0 : Var ((w.alloc (.cells #[.int .u64 0, .slice (some ⟨b, 0, none⟩) len cap] 25)).alloc (.cells #[.int .u64 0, .slice none 0 0] 25)) w.heap.size (.int .u64 0) (.slice (some ⟨b, 0, none⟩) len cap) := (Var.new w w.heap.size _ _ _ _ rfl).alloc _
  have v1 : Var ((w.alloc (.cells #[.int .u64 0, .slice (some ⟨b, 0, none⟩) len cap] 25)).alloc (.cells #[.int .u64 0, .slice none 0 0] 25)) (w.heap.size + 1) (.int .u64 0) (.slice none 0 0) := Var.new (w.alloc _) _ _ _ _ _ (by simp)
  have ha1 := ha.below hW ha.lt
  have c01 := v0.c1
  go_enter Tryd.func29, Tryd.ntmps29
  go_wp2_with fail
  generalize ((w.alloc (.cells #[.int .u64 0, .slice (some ⟨b, 0, none⟩) len cap] 25)).alloc (.cells #[.int .u64 0, .slice none 0 0] 25)) = W at hW v0 v1 ha1 c01 ⊢
  have hfin : val (l.take len) / 2 ^ k = 0 := by
    have h1 := val_bd (hw.take len)
    rw [List.length_take, Nat.min_eq_left (by omega)] at h1
    exact div_small h1.1 h1.2 (by have := Hk.out; omega)
  have Hfin := Lib.hid hfin
  clear hfin
  go_wp2_with fail
  refine (clone_none _ _ W).mono ?_
  rintro e w1 ⟨rfl, hA, hb1⟩
  have hgs : W.heap.size ≤ W.heap.size := Nat.le_refl _
  have hB1 := hW.trans (hb1.mono hW.size)
  have u1 := v1.below hb1 v1.lt
  have hsz := hW.size
  have hlt1 := v1.lt
  clear hb1 v0 v1 hW c01 d1 hmin
  go_wp2_with fail
  refine (shiftDown_any W.heap.size 22 0 0 r ([]) w1 hA (Nat.le_refl _) (by omega) Words.nil hr).mono ?_
  rintro e w2 ⟨rfl, lk, hk1, hk2, hk3, hk4, hk5, hg⟩
  have hB2 := hB1.grown hg hB1.size (fun j e => by cases e; omega)
  have u2 : Var w2 (w.heap.size + 1) (.int .u64 0) (.slice none 0 0) := u1.grown hg (by simp; omega)
  have hval : val (lk.take 0) = val (l.take len) / 2 ^ k := by
    rw [Hfin.out]; rfl
  have Hval := Lib.hid hval
  have md := made_any W.heap.size 22 0 0 lk w2 hk1 (Nat.le_refl _) (Nat.zero_le _) (by omega) hk3
  clear hval hk4 hk5 hg hB1 u1
  go_wp2_with fail
  refine md.mono ?_
  rintro e w4 ⟨v, rfl, hv4, hb4⟩
  obtain ⟨xa, xp, xl, xc, rfl⟩ := hv4.shape
  rw [Hval.out] at hv4
  have u4 := u2.below hb4 u2.lt
  have c10 := u4.c0
  have c11 := u4.c1
  have f10 := u4.free 0
  have f11 := u4.free 1
  have hB4 := hB2.trans (hb4.mono hB2.size)
  clear md
  go_wp2_with fail
  exact bodyPost_var Tryd.results29 rfl rfl (u4.set _ _ _ _) (hv4.two u4 _ _) (below_two hB4 (by omega) _ _)

theorem down_any (K : Nat) (hK2 : K ≤ 1048576) (v : Value) (n : Int) (k : Nat) (hk : k ≤ 67108864) (w : World) (h : IsNat w v n) (hn : n < pw K) :
    Calls Tryd.prog 29 #[v, .int .i64 k] w (RetNat (n / 2 ^ k) w) := by
  rcases h with ⟨wn, rfl⟩ | ⟨b, s, len, cap, l, rfl, ha, h2, h3, h4, h5, hw, hz, rfl⟩
  · exact down_word n wn k w
  · have e : k = 64 * (k / 64) + k % 64 := by omega
    have hlen := len_le hw (by omega) (by omega) hz hn
    rw [e]
    by_cases hq : k / 64 < len
    · exact down_part b s len cap l (k / 64) (k % 64) (by omega) (by omega) hq w ha h2 h3 h4 (by omega) hw
    · by_cases hcl : len = cap
      · subst hcl
        exact down_over1 b s len l (k / 64) (k % 64) (by omega) (by omega) (by omega) w ha h2 h4 (by omega) hw
      · exact down_over2 b s len cap l (k / 64) (k % 64) (by omega) (by omega) (by omega) w ha h2 (by omega) h4 (by omega) hw
end Go.Proofs.YtjoppmkknbpjbaaDoor
