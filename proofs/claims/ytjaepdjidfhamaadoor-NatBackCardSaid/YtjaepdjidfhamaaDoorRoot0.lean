/- Contract of nat.rootOfWord: the root of one word, bit by bit. -/
import Derived.Test.YtjaepdjidfhamaaDoorCmp
namespace Go.Proofs.YtjaepdjidfhamaaDoor
open Go.RowKit
set_option linter.unusedVariables false

/-- The highest k bits of the root of N are those of r. -/
def RootAt (N k : Nat) (r : Int) : Prop := ∃ p q : Nat, p = 2 ^ (32 - k) ∧ r = ((q * p : Nat) : Int) ∧ q * p * (q * p) ≤ N ∧ N < (q * p + p) * (q * p + p) ∧ q * p + p ≤ 4294967296

theorem RootAt.more {N k : Nat} {v : Int} (h : RootAt N k v) (hk : k < 32) : ∃ a p q : Nat, p = 2 ^ (32 - (k + 1)) ∧ a = q * (2 * p) ∧ v = (a : Int) ∧ a * a ≤ N ∧ N < (a + 2 * p) * (a + 2 * p) ∧ a + 2 * p ≤ 4294967296 ∧ bits .or .u64 v (IntKind.u64.wrap (2 ^ (31 - k))) = ((a + p : Nat) : Int) ∧
    IntKind.u64.wrap (bits .or .u64 v (IntKind.u64.wrap (2 ^ (31 - k))) * bits .or .u64 v (IntKind.u64.wrap (2 ^ (31 - k)))) = (((a + p) * (a + p) : Nat) : Int) := by
  obtain ⟨p, q, hp, rfl, h2, h3, h4⟩ := h
  have e1 : 32 - k = (31 - k) + 1 := by omega
  have e2 : 32 - (k + 1) = 31 - k := by omega
  rw [e1, Nat.pow_succ] at hp
  have hp' : p = 2 * 2 ^ (31 - k) := by omega
  have hb : (2 : Nat) ^ (31 - k) ≤ 2147483648 := Nat.pow_le_pow_right (by decide) (by omega : 31 - k ≤ 31)
  have hpos : 0 < (2 : Nat) ^ (31 - k) := Nat.two_pow_pos _
  have hor : q * (2 * 2 ^ (31 - k)) ||| 2 ^ (31 - k) = q * (2 * 2 ^ (31 - k)) + 2 ^ (31 - k) := by
    have hpos : 0 < 2 ^ (31 - k) := Nat.two_pow_pos _
    have := Nat.two_pow_add_eq_or_of_lt (i := (31 - k) + 1) (b := 2 ^ (31 - k)) (by rw [Nat.pow_succ]; omega) q
    rw [Nat.pow_succ, Nat.mul_comm (2 ^ (31 - k)) 2, Nat.mul_comm _ q] at this
    exact this.symm
  have hw : IntKind.u64.wrap (2 ^ (31 - k)) = ((2 ^ (31 - k) : Nat) : Int) := by
    rw [IntKind.wrap_u64]
    have e : (2 : Int) ^ (31 - k) = ((2 ^ (31 - k) : Nat) : Int) := by simp
    rw [e]; omega
  generalize hpe : (2 : Nat) ^ (31 - k) = p' at *
  subst hp'
  generalize ha : q * (2 * p') = a at *
  have hbits : bits .or .u64 (a : Int) (IntKind.u64.wrap (2 ^ (31 - k))) = ((a + p' : Nat) : Int) := by
    rw [hw, u64_or_nat a p' (by omega) (by omega), hor]
  refine ⟨a, p', q, by rw [e2]; exact hpe.symm, ha.symm, rfl, h2, h3, h4, hbits, ?_⟩
  rw [hbits, IntKind.wrap_u64]
  have hlt : (a + p') * (a + p') < 4294967296 * 4294967296 := Nat.mul_lt_mul'' (by omega) (by omega)
  have e3 : ((a + p' : Nat) : Int) * ((a + p' : Nat) : Int) = (((a + p') * (a + p') : Nat) : Int) := by push_cast; rfl
  rw [e3]
  generalize (a + p') * (a + p') = z at *
  omega
theorem RootAt.yes {N k : Nat} {v : Int} (h : RootAt N k v) (hk : k < 32) (ht : IntKind.u64.wrap (bits .or .u64 v (IntKind.u64.wrap (2 ^ (31 - k))) * bits .or .u64 v (IntKind.u64.wrap (2 ^ (31 - k)))) ≤ (N : Int)) : RootAt N (k + 1) (bits .or .u64 v (IntKind.u64.wrap (2 ^ (31 - k)))) := by
  obtain ⟨a, p, q, hp, ha, rfl, h2, h3, h4, h5, h6⟩ := h.more hk
  rw [h6] at ht
  rw [h5]
  have e : (2 * q + 1) * p = a + p := by rw [ha, Nat.add_mul, Nat.one_mul, Nat.mul_left_comm, ← Nat.mul_assoc]
  refine ⟨p, 2 * q + 1, hp, by rw [e], by rw [e]; exact Int.ofNat_le.1 ht, ?_, by rw [e]; omega⟩
  rw [e]
  have e2 : a + p + p = a + 2 * p := by omega
  rw [e2]; exact h3
theorem RootAt.no {N k : Nat} {v : Int} (h : RootAt N k v) (hk : k < 32) (ht : (N : Int) < IntKind.u64.wrap (bits .or .u64 v (IntKind.u64.wrap (2 ^ (31 - k))) * bits .or .u64 v (IntKind.u64.wrap (2 ^ (31 - k))))) : RootAt N (k + 1) v := by
  obtain ⟨a, p, q, hp, ha, rfl, h2, h3, h4, h5, h6⟩ := h.more hk
  rw [h6] at ht
  have e : (2 * q) * p = a := by rw [ha, Nat.mul_left_comm, ← Nat.mul_assoc]
  exact ⟨p, 2 * q, hp, by rw [e], by rw [e]; exact h2, by rw [e]; exact Int.ofNat_lt.1 ht, by rw [e]; omega⟩

set_option maxRecDepth 100000 in
set_option maxHeartbeats 400000 in
theorem rootOfWord_any (N : Nat) (hN : Hid (N < 18446744073709551616)) (w : World) :
    Calls Tryd.prog 31 #[.int .u64 N] w fun e w' => (∃ r : Nat, e = .returned (.int .u64 r) ∧ r * r ≤ N ∧ N < (r + 1) * (r + 1) ∧ r < 4294967296) ∧ w = w' := by
  go_enter Tryd.func31, Tryd.ntmps31
  go_wp2
  go_loop [3, 6] (fun r i => ∃ (k : Nat) (v : Int), k ≤ 32 ∧ i = .int .i64 k ∧ r = .int .u64 v ∧ RootAt N k v) (fun _ i => 32 - (intOf i).toNat)
  case atStart => exact ⟨0, 0, by decide, rfl, rfl, 4294967296, 0, rfl, by simp, by simp, by have := hN.out; omega, by simp⟩
  case round =>
    obtain ⟨k, v, hk, rfl, rfl, hr⟩ := hrel
    by_cases hlt : k < 32
    · go_wp2_with fail
      · have ht := hr.yes hlt (by assumption)
        exact ⟨⟨k + 1, _, by omega, by go_num, rfl, ht⟩, by simp [intOf]; omega⟩
      · have ht := hr.no hlt (by assumption)
        exact ⟨⟨k + 1, _, by omega, by go_num, rfl, ht⟩, by simp [intOf]; omega⟩
    · obtain rfl : k = 32 := by omega
      obtain ⟨p, q, hp, rfl, h2, h3, h4⟩ := hr
      obtain rfl : p = 1 := hp
      rw [Nat.mul_one] at h2 h3 h4
      rw [Nat.mul_one]
      have H := Lib.hid (And.intro h2 (And.intro h3 h4))
      clear h2 h3 h4 hlt
      go_wp2
      go_ret
      exact ⟨⟨q, rfl, H.out.1, H.out.2.1, by have := H.out.2.2; omega⟩, rfl⟩

theorem bodyPost_natR {R : Ending → World → Prop} {fn : Func} {p : Tmp} (h : fn.results = #[.cell p 25]) {w W w' : World} {a : Act} {x y x0 : Value} {p0 : Option Addr} {l0 c0 : Nat} {n : Int} {c : Nat} (hR : ∀ e w', RetNat n w e w' → R e w') (hd : a.defers = []) (hp : a.tmps.getD p undef = .pointer (some ⟨c, 0, none⟩))
    (h0 : Below w.heap.size w W) (hb : Below W.heap.size W w') (hv : IsNat w' (.agg #[x, y]) n) (hg : W.heap[c]? = some (.cells #[x0, .slice p0 l0 c0] 25 (0, 0))) (hcw : w.heap.size ≤ c) :
    bodyPost Tryd.prog fn R .ret a ((w'.setCell ⟨c, 0, none⟩ x).setCell ⟨c, 1, none⟩ y) := by
  obtain ⟨hd, v, hr, hp⟩ := bodyPost_nat h hd hp h0 hb hv hg hcw
  exact ⟨hd, v, hr, hR _ _ hp⟩

def RootPost (N : Nat) (w : World) (e : Ending) (w' : World) : Prop := ∃ r : Nat, r * r ≤ N ∧ N < (r + 1) * (r + 1) ∧ r < 4294967296 ∧ RetNat r w e w'
theorem root_word (N : Nat) (hN : Hid (N < 18446744073709551616)) (w : World) :
    Calls Tryd.prog 14 #[.agg #[.int .u64 N, .slice none 0 0]] w (RootPost N w) := by
  have e1 := eqnil
  go_enter Tryd.func14, Tryd.ntmps14
  go_wp2_with (first | (go_at_call 31; refine (rootOfWord_any N hN _).mono ?_; rintro e w' ⟨⟨r, rfl, hr⟩, rfl⟩; have Hr := Lib.hid hr; clear hr) | (go_at_call 7; refine (of_any _ _).mono ?_; rintro e w' ⟨rfl, hb⟩; obtain ⟨hc, hf⟩ := bcell hb))
  exact bodyPost_natR Tryd.results14 (fun e w' h => ⟨r, Hr.out.1, Hr.out.2.1, Hr.out.2.2, h⟩) rfl rfl (by go_grown) hb (IsNat.word ⟨by omega, by have := Hr.out.2.2; omega⟩) (heap_new _ _ _ (by simp)) (by omega)

theorem iformat_small (n : Nat) (hn : n < 100) (w : World) :
    Calls Tryd.prog 57 #[.int .u64 n, .int .i64 10] w fun e w' => e = .returned (.string ⟨(Lib.decDigits n).toArray⟩) ∧ w = w' := by
  have h1 : ((n : Int) < 100) := by omega
  go_enter Tryd.func57, Tryd.ntmps57
  go_wp2_with (go_at_call 73; refine (Tryd.internal_strconv_small n hn _).mono ?_; rintro e w' ⟨rfl, rfl⟩)
  go_ret
  exact ⟨rfl, rfl⟩
theorem format_small (n : Nat) (hn : n < 100) (w : World) :
    Calls Tryd.prog 34 #[.int .u64 n, .int .i64 10] w fun e w' => e = .returned (.string ⟨(Lib.decDigits n).toArray⟩) ∧ w = w' := by
  go_enter Tryd.func34, Tryd.ntmps34
  go_wp2_with (go_at_call 57; refine (iformat_small n hn _).mono ?_; rintro e w' ⟨rfl, rfl⟩)
  go_ret
  exact ⟨rfl, rfl⟩
theorem text_small (n : Nat) (hn : n < 100) (w : World) :
    Calls Tryd.prog 15 #[.agg #[.int .u64 n, .slice none 0 0]] w fun e w' => e = .returned (.string ⟨(Lib.decDigits n).toArray⟩) ∧ Below w.heap.size w w' := by
  have e1 := eqnil
  go_enter Tryd.func15, Tryd.ntmps15
  go_wp2_with (go_at_call 34; refine (format_small n hn _).mono ?_; rintro e w' ⟨rfl, rfl⟩)
  go_ret
  exact ⟨rfl, by go_grown⟩
end Go.Proofs.YtjaepdjidfhamaaDoor
