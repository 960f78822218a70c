/- dice: mix. -/
import Derived.Test.YtgccgacpifebbaaDicB
namespace Go.Proofs.Ytgccgacpifebbaa
open Go.RowKit
set_option linter.unusedVariables false

/-- Two places changed. -/
def swp (l : List Int) (i j : Nat) : List Int := (l.set i (l.getD j 0)).set j (l.getD i 0)
inductive Mixed : Nat → List Int → Int → List Int → Int → Prop
  | done {l : List Int} {s : Int} : Mixed 0 l s l s
  | step {i : Nat} {l : List Int} {s t t' : Int} {j : Nat} {l' : List Int} : Drawn ((i : Int) + 2) s j t → Mixed i (swp l (i + 1) j) t l' t' → Mixed (i + 1) l s l' t'
theorem Mixed.unique {i : Nat} {l l1 l2 : List Int} {s s1 s2 : Int} (h : Mixed i l s l1 s1) (k : Mixed i l s l2 s2) : l1 = l2 ∧ s1 = s2 := by
  induction h with
  | done => cases k; exact ⟨rfl, rfl⟩
  | step hd _ ih => cases k with
    | step kd km =>
      obtain ⟨e, rfl⟩ := hd.unique kd
      obtain rfl := Int.ofNat.inj e
      exact ih km
/-- What lies elsewhere than in p and q stays. -/
def Two (w w' : World) (p q : Nat) : Prop := w'.os = w.os ∧ w'.tape = w.tape ∧ w'.output = w.output ∧ w.heap.size ≤ w'.heap.size ∧ ∀ k, k < w.heap.size → k ≠ p → k ≠ q → w'.heap[k]? = w.heap[k]?
theorem Two.refl (w : World) (p q : Nat) : Two w w p q := ⟨rfl, rfl, rfl, Nat.le_refl _, fun _ _ _ _ => rfl⟩
theorem Two.trans {a b c : World} {p q : Nat} (h : Two a b p q) (g : Two b c p q) : Two a c p q := by
  obtain ⟨h1, h2, h3, h4, h5⟩ := h
  obtain ⟨g1, g2, g3, g4, g5⟩ := g
  exact ⟨g1.trans h1, g2.trans h2, g3.trans h3, Nat.le_trans h4 g4, fun k hk hp hq => (g5 k (Nat.lt_of_lt_of_le hk h4) hp hq).trans (h5 k hk hp hq)⟩
theorem Two.left {w w' : World} {p q : Nat} (h : w.grownBy w' (some p)) : Two w w' p q := ⟨h.os, h.tape, h.output, h.size, fun k hk hp _ => h.block k hk (fun e => hp (Option.some.inj e))⟩
theorem Two.right {w w' : World} {p q : Nat} (h : w.grownBy w' (some q)) : Two w w' p q := ⟨h.os, h.tape, h.output, h.size, fun k hk _ hq => h.block k hk (fun e => hq (Option.some.inj e))⟩
theorem Two.below {B : Nat} {a w w' : World} {p q : Nat} (h : Below B a w) (g : Two w w' p q) (hB : B ≤ w.heap.size) (hp : B ≤ p) (hq : B ≤ q) : Below B a w' :=
  h.trans ⟨g.1, g.2.1, g.2.2.1, g.2.2.2.1, fun k hk => g.2.2.2.2 k (by omega) (by omega) (by omega)⟩
set_option maxRecDepth 100000 in
set_option maxHeartbeats 1000000 in
theorem mix_any (b q n : Nat) (s : Int) (l : List Int) (hn : l.length = n) (h1 : 1 ≤ n) (h2 : n ≤ 65536) (hbq : b ≠ q) (w : World) (h : DBox w b s) (ha : Arr w q 3 .i64 l) :
    Calls Try.prog 39 #[.slice (some ⟨q, 0, none⟩) n n, .func (Fn.func 38) #[.pointer (some ⟨b, 0, none⟩)] #[]] w fun e w' => ∃ l' t, Mixed (n - 1) l s l' t ∧ e = .returned (.tuple #[]) ∧ l'.length = n ∧ Arr w' q 3 .i64 l' ∧ DBox w' b t ∧ Two w w' q b := by
  go_enter Try.func39, Try.ntmps39
  go_wp2_with fail
  go_loopg [4] (n - 1) (fun g iv wr => ∃ (i : Nat) (l' : List Int) (t : Int), g = i ∧ i ≤ n - 1 ∧ iv = .int .i64 i ∧ l'.length = n ∧ Arr wr q 3 .i64 l' ∧ DBox wr b t ∧ Two w wr q b ∧ ∀ L T, Mixed i l' t L T → Mixed (n - 1) l s L T)
  case atStart => exact ⟨n - 1, l, s, rfl, Nat.le_refl _, by go_num, hn, ha, h, Two.refl _ _ _, fun _ _ h => h⟩
  case round =>
    obtain ⟨i, l', t, hg, hi, rfl, hl, hq, hd, htw, hm⟩ := hrel
    have Hg := Lib.hid hg
    clear hg h ha hn
    rcases Nat.eq_zero_or_pos i with rfl | hi0
    · go_wp2_with fail
      refine bodyPost_end (results_none rfl _ _ _) rfl ?_
      exact ⟨l', t, hm l' t .done, rfl, hl, hq, hd, htw⟩
    · obtain ⟨k, hk⟩ : ∃ k, i = k + 1 := ⟨i - 1, by omega⟩
      have hk2 : (i : Int) + 1 = (k : Int) + 2 := by omega
      have Hk := Lib.hid hk
      have Hk2 := Lib.hid hk2
      clear hk hk2
      go_wp2_with fail
      rw [Hk2.out]
      refine (below_dice b t ((k : Int) + 2) (by have := Hk.out; omega) wr hd).mono ?_
      rintro e w2 ⟨x, t2, hx, rfl, hd2, hg2⟩
      obtain ⟨x0, x1⟩ := hx.range (by omega)
      obtain ⟨j, rfl⟩ := Int.eq_ofNat_of_zero_le x0
      have hq2 := hq.grown hg2 (by simp; omega)
      have hk2 := Hk2.out
      have hj : j < n := by omega
      clear hk2
      have hk3 : i < n := by omega
      have c1 := hq2.cell j (by omega)
      have c2 := hq2.cell i (by omega)
      have f1 := hq2.free j
      have f2 := hq2.free i
      have hset := hq2.set i (l'.getD j 0)
      have f3 := hset.free j
      have c3 := hset.cell j (by rw [List.length_set]; omega)
      obtain ⟨y3, hy3⟩ : ∃ y3, (l'.set i (l'.getD j 0)).getD j 0 = y3 := ⟨_, rfl⟩
      rw [hy3] at c3
      have hend := hset.set j (l'.getD i 0)
      have hsw : (l'.set i (l'.getD j 0)).set j (l'.getD i 0) = swp l' i j := rfl
      rw [hsw] at hend
      have htwo := (htw.trans (Two.right hg2)).trans ((Two.left (grownBy_set w2 q i (.int .i64 (l'.getD j 0)))).trans (Two.left (grownBy_set (w2.setCell ⟨q, i, none⟩ (.int .i64 (l'.getD j 0))) q j (.int .i64 (l'.getD i 0)))))
      have hdd : DBox ((w2.setCell ⟨q, i, none⟩ (.int .i64 (l'.getD j 0))).setCell ⟨q, j, none⟩ (.int .i64 (l'.getD i 0))) b t2 := (hd2.grown (grownBy_set w2 q i _) (by simp; omega)).grown (grownBy_set _ q j _) (by simp; omega)
      obtain ⟨y, hy⟩ : ∃ y, l'.getD j 0 = y := ⟨_, rfl⟩
      obtain ⟨z, hz⟩ : ∃ z, l'.getD i 0 = z := ⟨_, rfl⟩
      rw [hy] at c1 c3 f3 htwo hdd hend
      rw [hz] at c2 htwo hdd hend
      have Hx := Lib.hid hx
      have Htwo := Lib.hid htwo
      have Hdd := Lib.hid hdd
      have Hend := Lib.hid hend
      clear hd hq hy hz hi x0 x1 hx hset hsw hy3 htwo hdd hend
      go_wp2_with fail
      go_region
      all_goals go_wp2_with fail
      go_roundg k
      case measure => have := Hg.out; have := Hk.out; omega
      case rel =>
        have e1 := Hk.out
        exact ⟨k, swp l' i j, t2, rfl, by omega, by rw [show (i : Int) - 1 = (k : Int) by omega], by unfold swp; rw [List.length_set, List.length_set, hl], Hend.out.drew, Hdd.out, Htwo.out, fun L T hM => hm L T (by rw [e1]; exact .step Hx.out (by rw [← e1]; exact hM))⟩
end Go.Proofs.Ytgccgacpifebbaa
