/- dice: Order, Draw; hand: SameInts. -/
import Derived.Test.YtgccgacpifebbaaDicC
namespace Go.Proofs.Ytgccgacpifebbaa
open Go.RowKit
set_option linter.unusedVariables false

theorem infoI : (Try.prog.info? 3).map (fun i => (i.zero, i.size, i.bytes)) = some (some (.int .i64 0), 1, 8) := by kernel_rfl
theorem makeI (n : Nat) (i : Int) (hi : i = n) (hn : n ≤ 35184372088832) (w : World) :
    (Instr.makeSlice 27 (.int .i64 i) (.int .i64 i)).run Try.prog w = .ok (.slice (some ⟨w.heap.size, 0, none⟩) n n) (w.alloc (.cells (zeros .i64 n) 3)) := by
  subst hi
  obtain ⟨i0, hi, hz0, hz1, hz2⟩ := info_parts infoI
  have hr := run_make (P := Try.prog) w 27 3 i0 _ Try.underlying27 hi hz0 .i64 .i64 n n (by omega) (Int.le_refl _) (by rw [hz2]; omega) (by omega)
  rw [hr, Int.toNat_natCast, hz1, Nat.mul_one]
  show Result.ok _ (w.alloc (.cells (madeCells #[.int .i64 0] n) 3)) = _
  rw [madeCells_zeros]
/-- The first k of the numbers from 0 on, then noughts, n in all. -/
def upto (k n : Nat) : List Int := (List.range k).map (fun i : Nat => (i : Int)) ++ List.replicate (n - k) 0
theorem upto_length {k n : Nat} (h : k ≤ n) : (upto k n).length = n := by simp [upto]; omega
theorem upto_set {k n : Nat} (h : k < n) : (upto k n).set k k = upto (k + 1) n := by
  unfold upto
  obtain ⟨m, hm⟩ : ∃ m, n - k = m + 1 := ⟨n - k - 1, by omega⟩
  have hm2 : n - (k + 1) = m := by omega
  rw [hm, hm2, List.range_succ, List.replicate_succ, List.set_append_right _ _ (by simp)]
  simp
theorem zeros_list (k : IntKind) (n : Nat) : zeros k n = ((List.replicate n (0 : Int)).map (Value.int k)).toArray := by
  simp [zeros]
set_option maxRecDepth 100000 in
set_option maxHeartbeats 1000000 in
theorem order_any (b n : Nat) (s : Int) (h1 : 1 ≤ n) (h2 : n ≤ 65536) (w : World) (h : DBox w b s) :
    Calls Try.prog 26 #[.pointer (some ⟨b, 0, none⟩), .int .i64 n] w fun e w' => ∃ q l t, Mixed (n - 1) (upto n n) s l t ∧ e = .returned (.slice (some ⟨q, 0, none⟩) n n) ∧ l.length = n ∧ Arr w' q 3 .i64 l ∧ w.heap.size ≤ q ∧ DBox w' b t ∧ w.grownBy w' (some b) := by
  have hmf : ∀ (fn : Fn) (first cap : Array Value) (w : World), (Instr.makeFunc fn first cap).run Try.prog w = .ok (.func fn first cap) w := fun _ _ _ _ => rfl
  have hmk := makeI n n rfl (by omega)
  have g1 : ¬ (n : Int) < 1 := by omega
  have g2 : ¬ (65536 : Int) < (n : Int) := by omega
  go_enter Try.func26, Try.ntmps26
  go_wp2_with fail
  have ha0 : Arr (w.alloc (.cells (zeros .i64 n) 3)) w.heap.size 3 .i64 (upto 0 n) := by
    have := Arr.new w 3 .i64 (List.replicate n 0) _ rfl
    unfold zeros upto
    simpa using this
  have hb0 : Below w.heap.size w (w.alloc (.cells (zeros .i64 n) 3)) := by go_grown
  obtain ⟨q, hq⟩ : ∃ q, w.heap.size = q := ⟨_, rfl⟩
  rw [hq] at ha0 hb0 ⊢
  have Hq := Lib.hid hq
  clear hq
  go_loopg [17] n (fun g iv wr => ∃ k : Nat, g = n - k ∧ k ≤ n ∧ iv = .int .i64 k ∧ Arr wr q 3 .i64 (upto k n) ∧ Below q w wr)
  case atStart => exact ⟨0, rfl, Nat.zero_le _, rfl, ha0, hb0⟩
  case round =>
    obtain ⟨k, hg, hk, rfl, ha, hb⟩ := hrel
    have Hg := Lib.hid hg
    clear hg ha0 hb0
    by_cases hlt : k < n
    · have hc := ha.cell k (by rw [upto_length hk]; exact hlt)
      have hf := ha.free k
      have hs := ha.set k (k : Int)
      rw [upto_set hlt] at hs
      obtain ⟨y, hy⟩ : ∃ y, (upto k n).getD k 0 = y := ⟨_, rfl⟩
      rw [hy] at hc
      have Hs := Lib.hid hs
      clear hs hy ha
      go_wp2_with fail
      go_roundg (n - (k + 1))
      case measure => have := Hg.out; omega
      case rel => exact ⟨k + 1, rfl, by omega, by go_num, Hs.out, hb.setCell (Nat.le_refl _) _⟩
    · obtain rfl : k = n := by omega
      have hd := h.below (Hq.out ▸ hb) (Hq.out ▸ h.lt)
      go_wp2_with fail
      have hne : b ≠ q := by have := Hq.out; have := h.lt; omega
      refine (mix_any b q k s (upto k k) (upto_length (Nat.le_refl _)) h1 h2 hne wr hd ha).mono ?_
      rintro e w2 ⟨l, t, hm, rfl, hl, ha2, hd2, htw⟩
      go_wp2_with fail
      go_ret
      refine ⟨q, l, t, hm, rfl, hl, ha2, by have := Hq.out; omega, hd2, ?_⟩
      obtain ⟨t1, t2, t3, t4, t5⟩ := htw
      have hsz := hb.size
      exact ⟨t1.trans hb.os, t2.trans hb.tape, t3.trans hb.output, Nat.le_trans hsz t4, fun j hj hjb => (t5 j (by omega) (by have := Hq.out; omega) (fun e => hjb (by rw [e]))).trans (hb.block j (by have := Hq.out; omega))⟩
theorem Two.grown {w w' : World} {q b : Nat} (h : Two w w' q b) (hq : w.heap.size ≤ q) : w.grownBy w' (some b) :=
  ⟨h.1, h.2.1, h.2.2.1, h.2.2.2.1, fun j hj hjb => h.2.2.2.2 j hj (by omega) (fun e => hjb (by rw [e]))⟩
/-- Numbers drawn, one by one. -/
inductive Draws (n : Int) : List Int → Int → Int → Prop
  | done {s : Int} : Draws n [] s s
  | step {x s t t' : Int} {l : List Int} : Drawn n s x t → Draws n l t t' → Draws n (x :: l) s t'
theorem Draws.unique {n : Int} {l1 l2 : List Int} {s s1 s2 : Int} (h : Draws n l1 s s1) (k : Draws n l2 s s2) (hl : l1.length = l2.length) : l1 = l2 ∧ s1 = s2 := by
  induction h generalizing l2 with
  | done => cases k with
    | done => exact ⟨rfl, rfl⟩
    | step _ _ => simp at hl
  | step hd _ ih => cases k with
    | done => simp at hl
    | step kd km =>
      obtain ⟨rfl, rfl⟩ := hd.unique kd
      obtain ⟨rfl, rfl⟩ := ih km (by simpa using hl)
      exact ⟨rfl, rfl⟩
theorem Draws.range {n : Int} {l : List Int} {s t : Int} (hn : 1 ≤ n) (h : Draws n l s t) : ∀ x ∈ l, 0 ≤ x ∧ x < n := by
  induction h with
  | done => simp
  | step hd _ ih =>
    intro x hx
    rcases List.mem_cons.1 hx with rfl | hx
    · exact hd.range hn
    · exact ih x hx
/-- A slice of numbers, none or a row of its own. -/
def Ints (w : World) (B : Nat) (v : Value) (l : List Int) : Prop := (v = .slice none 0 0 ∧ l = []) ∨ ∃ q, v = .slice (some ⟨q, 0, none⟩) l.length l.length ∧ Arr w q 3 .i64 l ∧ B ≤ q
set_option maxRecDepth 100000 in
set_option maxHeartbeats 1000000 in
theorem draw_pos (b N : Nat) (s n : Int) (hn : 1 ≤ n ∧ n ≤ 9223372036854775807) (h1 : 1 ≤ N) (h2 : N ≤ 65536) (w : World) (h : DBox w b s) :
    Calls Try.prog 24 #[.pointer (some ⟨b, 0, none⟩), .int .i64 n, .int .i64 N] w fun e w' => ∃ v l t, Draws n l s t ∧ e = .returned v ∧ l.length = N ∧ Ints w' w.heap.size v l ∧ DBox w' b t ∧ w.grownBy w' (some b) := by
  have hmk := makeI N N rfl (by omega)
  have g0 : ¬ n < 1 := by omega
  have g1 : ¬ (N : Int) < 1 := by omega
  have g2 : ¬ (65536 : Int) < (N : Int) := by omega
  have ha0 : Arr (w.alloc (.cells (zeros .i64 N) 3)) w.heap.size 3 .i64 (List.replicate N 0) := Arr.new w 3 .i64 (List.replicate N 0) _ rfl
  have hb0 : Below w.heap.size w (w.alloc (.cells (zeros .i64 N) 3)) := by go_grown
  obtain ⟨q, hq⟩ : ∃ q, w.heap.size = q := ⟨_, rfl⟩
  rw [hq] at ha0 hb0
  have hd0 := h.below hb0 (hq ▸ h.lt)
  have hg0 := below_grown (hq.symm ▸ hb0) (some b)
  have Hq := Lib.hid hq
  clear hq
  go_enter Try.func24, Try.ntmps24
  go_wp2_with fail
  rw [Hq.out]
  go_loopg [23] N (fun g iv wr => ∃ (k : Nat) (xs : List Int) (t : Int), g = N - k ∧ k ≤ N ∧ iv = .int .i64 k ∧ xs.length = k ∧ Arr wr q 3 .i64 (xs ++ List.replicate (N - k) 0) ∧ DBox wr b t ∧ Two w wr q b ∧ ∀ L T, Draws n L t T → Draws n (xs ++ L) s T)
  case atStart => exact ⟨0, [], s, rfl, Nat.zero_le _, rfl, rfl, by simpa using ha0, hd0, Two.right hg0, fun _ _ h => h⟩
  case round =>
    obtain ⟨k, xs, t, hg, hk, rfl, hx, ha, hd, htw, hm⟩ := hrel
    have Hg := Lib.hid hg
    have hbq : b ≠ q := by have := Hq.out; have := h.lt; omega
    clear hg ha0 hd0 hb0 hg0
    by_cases hlt : k < N
    · go_wp2_with fail
      refine (below_dice b t n hn wr hd).mono ?_
      rintro e w2 ⟨x, t2, hdr, rfl, hd2, hg2⟩
      have ha2 := ha.grown hg2 (by simp; omega)
      have hc := ha2.cell k (by simp; omega)
      have hf := ha2.free k
      have hs := ha2.set k x
      obtain ⟨m, hmm⟩ : ∃ m, N - k = m + 1 := ⟨N - k - 1, by omega⟩
      have hm2 : N - (k + 1) = m := by omega
      have el : (xs ++ List.replicate (N - k) 0).set k x = (xs ++ [x]) ++ List.replicate (N - (k + 1)) 0 := by
        rw [hmm, hm2, List.replicate_succ, List.set_append_right _ _ (by omega)]
        simp [hx]
      rw [el] at hs
      have htw2 := (htw.trans (Two.right hg2)).trans (Two.left (grownBy_set w2 q k (.int .i64 x)))
      have hdd : DBox (w2.setCell ⟨q, k, none⟩ (.int .i64 x)) b t2 := hd2.grown (grownBy_set w2 q k _) (by simp; omega)
      obtain ⟨y, hy⟩ : ∃ y, (xs ++ List.replicate (N - k) 0).getD k 0 = y := ⟨_, rfl⟩
      rw [hy] at hc
      have Hs := Lib.hid hs
      have Htw := Lib.hid htw2
      have Hdd := Lib.hid hdd
      have Hdr := Lib.hid hdr
      clear hs hy ha ha2 htw htw2 hdd hdr el hmm hm2 hd
      go_wp2_with fail
      go_roundg (N - (k + 1))
      case measure => have := Hg.out; omega
      case rel => exact ⟨k + 1, xs ++ [x], t2, rfl, by omega, by go_num, by simp [hx], Hs.out, Hdd.out, Htw.out, fun L T hL => by rw [List.append_assoc]; exact hm _ _ (.step Hdr.out hL)⟩
    · obtain rfl : k = N := by omega
      rw [Nat.sub_self] at ha
      simp only [List.replicate_zero, List.append_nil] at ha
      have hfin := hm [] t .done
      rw [List.append_nil] at hfin
      clear hm
      go_wp2_with fail
      go_ret
      exact ⟨.slice (some ⟨q, 0, none⟩) k k, xs, t, hfin, rfl, hx, .inr ⟨q, by rw [hx], ha, by have := Hq.out; omega⟩, hd, htw.grown (by have := Hq.out; omega)⟩
set_option maxRecDepth 100000 in
theorem draw_none (b : Nat) (n : Int) (hn : 1 ≤ n) (w : World) :
    Calls Try.prog 24 #[.pointer (some ⟨b, 0, none⟩), .int .i64 n, .int .i64 0] w fun e w' => e = .returned (.slice none 0 0) ∧ w = w' := by
  have g0 : ¬ n < 1 := by omega
  go_enter Try.func24, Try.ntmps24
  go_wp2_with fail
  go_ret
  exact ⟨rfl, rfl⟩
theorem draw_any (b N : Nat) (s n : Int) (hn : 1 ≤ n ∧ n ≤ 9223372036854775807) (h2 : N ≤ 65536) (w : World) (h : DBox w b s) :
    Calls Try.prog 24 #[.pointer (some ⟨b, 0, none⟩), .int .i64 n, .int .i64 N] w fun e w' => ∃ v l t, Draws n l s t ∧ e = .returned v ∧ l.length = N ∧ Ints w' w.heap.size v l ∧ DBox w' b t ∧ w.grownBy w' (some b) := by
  rcases Nat.eq_zero_or_pos N with rfl | h1
  · exact (draw_none b n hn.1 w).mono fun e w' ⟨he, hw⟩ => by
      subst hw
      exact ⟨_, [], s, .done, he, rfl, .inl ⟨rfl, rfl⟩, h, grownBy_refl _ _⟩
  · exact draw_pos b N s n hn h1 h2 w h
end Go.Proofs.Ytgccgacpifebbaa
