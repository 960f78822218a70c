/- GcdB -/
import Derived.Test.YtgccgacpifebbaaGreatDoorZb35
namespace Go.Proofs.YtgccgacpifebbaaGreatDoor
open Go.RowKit
set_option linter.unusedVariables false
/-- Value v is the words xs, in block g, with room for z more, all 0. -/
def Wds (w : World) (v : Value) (g z : Nat) (xs : List Int) : Prop := v = .slice (some ⟨g,0,none⟩) xs.length (xs.length + z) ∧ Arr w g 23 .u64 (xs ++ List.replicate z 0)
section
variable {w w' : World} {v : Value} {g z : Nat} {xs : List Int}
theorem Wds.lt (h : Wds w v g z xs) : g < w.heap.size := h.2.lt
theorem Wds.below (h : Wds w v g z xs) (hb : Below w.heap.size w w') : Wds w' v g z xs := ⟨h.1,h.2.below hb h.2.lt⟩
theorem Wds.belowB {B : Nat} (h : Wds w v g z xs) (hb : Below B w w') (hB : g < B) : Wds w' v g z xs := ⟨h.1,h.2.below hb hB⟩
theorem Wds.other {a : Addr} (h : Wds w v g z xs) (ha : g ≠ a.block) (x : Value) : Wds (w.setCell a x) v g z xs := ⟨h.1,h.2.other ha x⟩
theorem Wds.keeps {u u' : Value} (h : Wds w v g z xs) (k : Keeps u u' w w') (hne : ∀ l c,u ≠ .slice (some ⟨g,0,none⟩) l c) : Wds w' v g z xs := ⟨h.1,(k.2.1 g h.lt hne).trans h.2⟩
theorem Wds.own (h : Wds w v g z xs) : Own w 0 .u64 23 v xs := .inr ⟨g,z,h.1,h.2,Nat.zero_le _⟩
theorem Wds.cell (h : Wds w v g z xs) (k : Nat) (hk : k < xs.length) : w.cell? ⟨g,k,none⟩ = some (.int .u64 (xs.getD k 0)) := by
  have := h.2.cell k (by simp; omega)
  rw [List.getD_eq_getElem?_getD,List.getElem?_append_left hk,← List.getD_eq_getElem?_getD] at this
  exact this
theorem Wds.set (h : Wds w v g z xs) (k : Nat) (hk : k < xs.length) (x : Int) : Wds (w.setCell ⟨g,k,none⟩ (.int .u64 x)) v g z (xs.set k x) := by
  refine ⟨by rw [List.length_set]; exact h.1,?_⟩
  have := h.2.set k x
  rw [List.set_append_left _ _ hk] at this
  exact this
end
theorem app_cell64 {w : World} {B h : Nat} {v : Value} {xs : List Int} {y : Int} (hB : B ≤ w.heap.size) (ho : Own w B .u64 23 v xs) (hc : w.cell? ⟨h,0,none⟩ = some (.int .u64 y)) (hm : xs.length + 1 ≤ 4294967296) :
    ∃ v' w',(Builtin.append_ #[24,24] 24 #[v,.slice (some ⟨h,0,none⟩) 1 1]).run Tryz.prog w = .ok v' w' ∧ Own w' B .u64 23 v' (xs ++ [y]) ∧ Below B w w' ∧ Keeps v v' w w' := by
  have hs : Src Tryz.prog 1 24 (.slice (some ⟨h,0,none⟩) 1 1) [y].length ([y].map (Value.int .u64)) w := Src.ofSlice w Tryz.underlying24 ⟨h,0,none⟩ 1 1 [.int .u64 y] (by simp) (fun j u hj => by
    have hadd : (⟨h,0,none⟩ : Addr).add j = ⟨h,j,none⟩ := by unfold Addr.add; split <;> simp_all
    rcases j with _ | j
    · simp at hj; subst hj; rw [hadd]; exact hc
    · simp at hj) (fun u hu => by simp at hu; subst hu; rfl)
  obtain ⟨v',w',row,h1,h2,h3,_,_,h4⟩ := app_kept (ys := [y]) 24 Tryz.underlying24 info64 (by decide) hB ho hs (by simp) (by simpa using hm)
  exact ⟨v',w',h1,h2,h3,h4⟩
theorem trimLen_zeros (l : List Int) : ∀ n,∀ j,trimLen l n ≤ j → j < n → l.getD j 0 = 0
  | 0,j,_,h => by omega
  | n + 1,j,h1,h2 => by
    by_cases h : l.getD n 0 = 0
    · rw [trimLen_zero h] at h1
      by_cases hj : j = n
      · subst hj; exact h
      · exact trimLen_zeros l n j h1 (by omega)
    · rw [trimLen_stop h] at h1; omega
theorem take_zeros {l : List Int} {k : Nat} (hk : k ≤ l.length) (h : ∀ j,k ≤ j → j < l.length → l.getD j 0 = 0) : l.take k ++ List.replicate (l.length - k) 0 = l := by
  apply List.ext_getElem
  · simp; omega
  · intro i h1 h2
    by_cases hi : i < k
    · rw [List.getElem_append_left (by simp; omega)]; simp
    · rw [List.getElem_append_right (by simp; omega),List.getElem_replicate]
      have := h i (by omega) h2
      rw [List.getD_eq_getElem?_getD,List.getElem?_eq_getElem h2] at this
      exact this.symm
/-- One word more of a line. -/
theorem line_step {xs ys ls : List Int} {k : Nat} {p q c lo hi : Int} (hx : k < xs.length) (hy : k < ys.length) (hl : k < ls.length) (h : seg ls 0 k + pw k * c = p * seg xs 0 k + q * seg ys 0 k) (ht : lo + 18446744073709551616 * hi = xs.getD k 0 * p + ys.getD k 0 * q + c) :
    seg (ls.set k lo) 0 (k + 1) + pw (k + 1) * hi = p * seg xs 0 (k + 1) + q * seg ys 0 (k + 1) := by
  have e1 : seg (ls.set k lo) 0 k = seg ls 0 k := seg_congr (by rw [List.length_set]; omega) (by omega) (fun j _ hj => by rw [getD_set _ _ _ _ hl,if_neg (by omega)])
  rw [seg_succ (by rw [List.length_set]; omega),seg_succ (by omega),seg_succ (by omega),e1,Nat.zero_add,getD_set _ _ _ _ hl,if_pos rfl,pw_add k 1,show pw 1 = 18446744073709551616 from by decide]
  generalize seg ls 0 k = A at *
  generalize pw k = P at *
  grind
theorem carry_bd {a b p q c lo hi : Int} (ha : Word a) (hb : Word b) (hp : -2147483648 < p ∧ p < 2147483648) (hq : -2147483648 < q ∧ q < 2147483648) (hc : -8589934592 ≤ c ∧ c ≤ 8589934592) (hlo : Word lo) (ht : lo + 18446744073709551616 * hi = a * p + b * q + c) : -8589934592 ≤ hi ∧ hi ≤ 8589934592 := by
  have k1 := mul_near ha hp
  have k2 := mul_near hb hq
  unfold Word at ha hb hlo
  omega
theorem Only.set2 {a b : World} {p : Nat → Prop} (h : Only a b p) {q : Nat} (hq : p q ∨ a.heap.size ≤ q) (i : Nat) (v : Value) : Only a (b.setCell ⟨q,i,none⟩ v) p :=
  ⟨h.1,h.2.1,h.2.2.1,by simpa [World.setCell] using h.2.2.2.1,fun k hk hp => (heap_setCell_other b ⟨q,i,none⟩ k v (fun e => by have e : k = q := e; rcases hq with h1 | h1; exact hp (by rw [e]; exact h1); omega)).trans (h.2.2.2.2 k hk hp)⟩
theorem trim_wds {l : List Int} {z L : Nat} (hl : l.length = L) : ∃ k,trimLen (l ++ List.replicate z 0) L = k ∧ k ≤ L ∧ l ++ List.replicate z 0 = l.take k ++ List.replicate (z + (L - k)) 0 ∧ (k ≠ 0 → l.getD (k - 1) 0 ≠ 0) ∧ val (l.take k) = val l := by
  have e : ∀ j,j < L → (l ++ List.replicate z 0).getD j 0 = l.getD j 0 := fun j hj => by rw [List.getD_eq_getElem?_getD,List.getElem?_append_left (by omega),← List.getD_eq_getElem?_getD]
  have h1 := trimLen_le (l ++ List.replicate z 0) L
  have h2 := trimLen_last (l ++ List.replicate z 0) L
  have h3 := trimLen_zeros (l ++ List.replicate z 0) L
  generalize trimLen (l ++ List.replicate z 0) L = k at *
  have h4 := take_zeros (l := l) (k := k) (by omega) (fun j hj1 hj2 => by rw [← e j (by omega)]; exact h3 j hj1 (by omega))
  refine ⟨k,rfl,h1,?_,fun hk => by rw [← e (k - 1) (by omega)]; exact h2 hk,?_⟩
  · conv => lhs; rw [← h4]
    rw [List.append_assoc,List.replicate_append_replicate,hl,Nat.add_comm]
  · conv => rhs; rw [← h4]
    rw [val_append,val_replicate]; omega
theorem carry_none {S P c A : Int} (hS : 0 ≤ S ∧ S < P) (hA : 0 ≤ A ∧ A < P) (h : S + P * c = A) : S = A := by
  rcases Int.lt_trichotomy c 0 with k | k | k
  · have := Int.mul_le_mul_of_nonneg_left (show c ≤ -1 by omega) (show 0 ≤ P by omega)
    rw [Int.mul_neg,Int.mul_one] at this
    omega
  · subst k; omega
  · have := Int.mul_le_mul_of_nonneg_left (show 1 ≤ c by omega) (show 0 ≤ P by omega)
    rw [Int.mul_one] at this
    omega
set_option maxRecDepth 100000 in
set_option maxHeartbeats 8000000 in
theorem by_any (e ga gb za zb : Nat) (va vb : Value) (xs ys : List Int) (p q r t A B : Int) (w : World) (nab : ga ≠ gb) (nea : e ≠ ga) (neb : e ≠ gb) (he : EBox w e va vb) (ha : Wds w va ga za xs) (hb : Wds w vb gb zb ys) (wx : Words xs) (wy : Words ys)
    (hlen : ys.length ≤ xs.length) (hx1 : 1 ≤ xs.length) (hm : xs.length ≤ 1000000) (hp : -2147483648 < p ∧ p < 2147483648) (hq : -2147483648 < q ∧ q < 2147483648) (hr : -2147483648 < r ∧ r < 2147483648) (ht : -2147483648 < t ∧ t < 2147483648)
    (hA : p * val xs + q * val ys = A) (hB : r * val xs + t * val ys = B) (hA0 : 0 ≤ A ∧ A < pw xs.length) (hB0 : 0 ≤ B ∧ B < pw xs.length) :
    Calls Tryz.prog 66 #[.pointer (some ⟨e,0,none⟩),.agg #[.int .i64 p,.int .i64 q,.int .i64 r,.int .i64 t]] w fun o w' => o = .returned (.tuple #[]) ∧
      ∃ ua ub gb' za' zb' xs' ys',EBox w' e ua ub ∧ Wds w' ua ga za' xs' ∧ Wds w' ub gb' zb' ys' ∧ Words xs' ∧ Words ys' ∧ val xs' = A ∧ val ys' = B ∧ (xs'.length ≠ 0 → xs'.getD (xs'.length - 1) 0 ≠ 0) ∧ (ys'.length ≠ 0 → ys'.getD (ys'.length - 1) 0 ≠ 0) ∧ (gb' = gb ∨ w.heap.size ≤ gb') ∧ Only w w' (fun k => k = e ∨ k = ga ∨ k = gb) := by
  have pe : (fun k => k = e ∨ k = ga ∨ k = gb) e := .inl rfl
  have pa : (fun k => k = e ∨ k = ga ∨ k = gb) ga := .inr (.inl rfl)
  have pb : (fun k => k = e ∨ k = ga ∨ k = gb) gb := .inr (.inr rfl)
  obtain ⟨P,hP⟩ : ∃ P,(fun k => k = e ∨ k = ga ∨ k = gb) = P := ⟨_,rfl⟩
  rw [hP] at pe pa pb ⊢
  clear hP
  have hL := heap_new w (.cells #[.int .i64 p,.int .i64 q,.int .i64 r,.int .i64 t] 110) w.heap.size rfl
  have b0 : Below w.heap.size w (w.alloc (.cells #[.int .i64 p,.int .i64 q,.int .i64 r,.int .i64 t] 110)) := by go_grown
  have hR : Row4 (w.alloc (.cells #[.int .i64 p,.int .i64 q,.int .i64 r,.int .i64 t] 110)) w.heap.size p q r t := hL
  have ea := he.lt
  have la := ha.lt
  have lb := hb.lt
  replace he := he.below b0 he.lt
  replace ha := ha.below b0
  replace hb := hb.below b0
  have hBw := (Only.refl w P).below b0
  have c0 := he.cell0
  have c1 := he.cell1
  obtain rfl := ha.1
  obtain rfl := hb.1
  go_enter Tryz.func66,Tryz.ntmps66
  go_wp2_with fail
  go_quiet (fail)
  go_wp2_with fail
  replace he : EBox ((w.alloc (.cells #[.int .i64 p,.int .i64 q,.int .i64 r,.int .i64 t] 110)).drewN nq) e _ _ := he
  replace ha : Wds ((w.alloc (.cells #[.int .i64 p,.int .i64 q,.int .i64 r,.int .i64 t] 110)).drewN nq) _ ga za xs := ha
  replace hb : Wds ((w.alloc (.cells #[.int .i64 p,.int .i64 q,.int .i64 r,.int .i64 t] 110)).drewN nq) _ gb zb ys := hb
  replace hR : Row4 ((w.alloc (.cells #[.int .i64 p,.int .i64 q,.int .i64 r,.int .i64 t] 110)).drewN nq) w.heap.size p q r t := hR
  replace hBw : Only w ((w.alloc (.cells #[.int .i64 p,.int .i64 q,.int .i64 r,.int .i64 t] 110)).drewN nq) P := hBw
  generalize (w.alloc (.cells #[.int .i64 p,.int .i64 q,.int .i64 r,.int .i64 t] 110)).drewN nq = W1 at he ha hb hR hBw ⊢
  obtain ⟨c,hc⟩ : ∃ c,w.heap.size = c := ⟨_,rfl⟩
  rw [hc] at hR ea la lb ⊢
  clear b0 hL c0 c1
  have nca : c ≠ ga := by omega
  have nce : c ≠ e := by omega
  go_loopg [5] (xs.length - ys.length) (fun g v wr => ∃ g2 z2 n,g + ys.length + n = xs.length ∧ Wds wr v g2 z2 (ys ++ List.replicate n 0) ∧ (g2 = gb ∨ c < g2) ∧ EBox wr e (.slice (some ⟨ga,0,none⟩) xs.length (xs.length + za)) (.slice (some ⟨gb,0,none⟩) ys.length (ys.length + zb)) ∧ Wds wr (.slice (some ⟨ga,0,none⟩) xs.length (xs.length + za)) ga za xs ∧ Row4 wr c p q r t ∧ Only w wr P)
  case atStart => exact ⟨gb,zb,0,by omega,by simpa using hb,.inl rfl,he,ha,hR,hBw⟩
  case round =>
    clear he ha hb hR hBw
    obtain ⟨g2,z2,n,hn,hb,hg2,he,ha,hR,hBw⟩ := hrel
    obtain ⟨zs,hzs⟩ : ∃ zs,ys ++ List.replicate n 0 = zs := ⟨_,rfl⟩
    have zl : zs.length = ys.length + n := by rw [← hzs]; simp
    have hvz : val zs = val ys := by rw [← hzs,val_append,val_replicate]; omega
    have wz : Words zs := by rw [← hzs]; exact wy.append (Words.replicate n)
    rw [hzs] at hb
    obtain rfl := hb.1
    by_cases hg : zs.length < xs.length
    · have hs : zs ++ [0] = ys ++ List.replicate (n + 1) 0 := by rw [← hzs,List.append_assoc,← List.replicate_succ']
      have b1 : Below wr.heap.size wr (wr.alloc (.cells #[.int .u64 0] 23)) := by go_grown
      have hc1 : (wr.alloc (.cells #[.int .u64 0] 23)).cell? ⟨wr.heap.size,0,none⟩ = some (.int .u64 0) := by rw [cell_of_row _ _ 0 _ _ (0,0) (heap_new wr _ _ rfl)]; rfl
      obtain ⟨v',w',hrun,ho,hbel,hk⟩ := app_cell64 (B := 0) (Nat.zero_le _) (hb.below b1).own hc1 (by omega)
      have hgi : (zs.length : Int) < (xs.length : Int) := by omega
      have hgk : gk = xs.length - zs.length := by omega
      have ez : EBox w' e (.slice (some ⟨ga,0,none⟩) xs.length (xs.length + za)) (.slice (some ⟨gb,0,none⟩) ys.length (ys.length + zb)) := by
        have h1 := he.below b1 he.lt
        refine (hk.2.1 e h1.lt ?_).trans h1
        intro l c h
        simp only [Value.slice.injEq,Option.some.injEq,Addr.mk.injEq] at h
        rcases hg2 with h2 | h2 <;> omega
      have za' : Wds w' (.slice (some ⟨ga,0,none⟩) xs.length (xs.length + za)) ga za xs := by
        refine (ha.below b1).keeps hk ?_
        intro l c h
        simp only [Value.slice.injEq,Option.some.injEq,Addr.mk.injEq] at h
        rcases hg2 with h2 | h2 <;> omega
      have zR : Row4 w' c p q r t := by
        have h1 := hR.below b1 hR.lt
        refine (hk.2.1 c h1.lt ?_).trans h1
        intro l c' h
        simp only [Value.slice.injEq,Option.some.injEq,Addr.mk.injEq] at h
        rcases hg2 with h2 | h2 <;> omega
      have hO : Only w w' P := by
        refine ⟨hbel.os.trans (b1.os.trans hBw.1),hbel.tape.trans (b1.tape.trans hBw.2.1),hbel.output.trans (b1.output.trans hBw.2.2.1),Nat.le_trans hBw.2.2.2.1 (Nat.le_trans b1.size hbel.size),fun k hk1 hkP => ?_⟩
        have hk2 : k < wr.heap.size := Nat.lt_of_lt_of_le hk1 hBw.2.2.2.1
        refine (hk.2.1 k (Nat.lt_of_lt_of_le hk2 b1.size) ?_).trans ((b1.block k hk2).trans (hBw.2.2.2.2 k hk1 hkP))
        intro l c' h
        simp only [Value.slice.injEq,Option.some.injEq,Addr.mk.injEq] at h
        have e1 : g2 = k := by omega
        rcases hg2 with h2 | h2
        · exact hkP (by rw [← e1,h2]; exact pb)
        · omega
      have zB : ∃ g3 z3,Wds w' v' g3 z3 (ys ++ List.replicate (n + 1) 0) ∧ (g3 = gb ∨ c < g3) := by
        rcases ho with ⟨_,h⟩ | ⟨b,z,h1,h2,_⟩
        · simp at h
        · rw [hs] at h1 h2
          refine ⟨b,z,⟨h1,h2⟩,?_⟩
          rcases hk.2.2 b _ _ h1 with h3 | ⟨l,c',h3⟩
          · right
            have := hR.lt
            have := b1.size
            omega
          · simp only [Value.slice.injEq,Option.some.injEq,Addr.mk.injEq] at h3
            have e1 : g2 = b := by omega
            rw [← e1]; exact hg2
      obtain ⟨g3,z3,zB,hg3⟩ := zB
      have Zl := Lib.hid zl
      clear hvz wz hzs hc1 he ha hR hBw hb ho hk hbel zl hs
      go_wp2_with (at_builtin; refine Lib.wpList_append_run _ rfl _ _ _ _ rfl _ _ rfl rfl _ _ hrun ?_)
      go_roundg (xs.length - zs.length - 1)
      case measure => omega
      case rel => exact ⟨g3,z3,n + 1,by have := Zl.out; omega,zB,hg3,ez,za',zR,hO⟩
    · obtain rfl : gk = 0 := by omega
      have hgi : ¬ (zs.length : Int) < (xs.length : Int) := by omega
      have zx : Hid (zs.length = xs.length) := Lib.hid (by omega)
      clear zl hzs hn
      rw [← hvz] at hB hA
      go_wp2_with fail
      have nag : ga ≠ g2 := by rcases hg2 with h | h <;> omega
      have neg : e ≠ g2 := by rcases hg2 with h | h <;> omega
      have ncg : c ≠ g2 := by rcases hg2 with h | h <;> omega
      have pg : P g2 ∨ w.heap.size ≤ g2 := by
        rcases hg2 with h | h
        · left; rw [h]; exact pb
        · right; omega
      go_loopg [6,7,29] xs.length (fun g x y i wq => ∃ k la lb cA cB,g + k = xs.length ∧ i = .int .i64 (k : Nat) ∧ x = .int .i64 cA ∧ y = .int .i64 cB ∧ la.length = xs.length ∧ lb.length = zs.length ∧ Words la ∧ Words lb ∧ (∀ j,k ≤ j → la.getD j 0 = xs.getD j 0) ∧ (∀ j,k ≤ j → lb.getD j 0 = zs.getD j 0) ∧
        Hid (seg la 0 k + pw k * cA = p * seg xs 0 k + q * seg zs 0 k) ∧ Hid (seg lb 0 k + pw k * cB = r * seg xs 0 k + t * seg zs 0 k) ∧ (-8589934592 ≤ cA ∧ cA ≤ 8589934592) ∧ (-8589934592 ≤ cB ∧ cB ≤ 8589934592) ∧
        EBox wq e (.slice (some ⟨ga,0,none⟩) xs.length (xs.length + za)) (.slice (some ⟨gb,0,none⟩) ys.length (ys.length + zb)) ∧ Wds wq (.slice (some ⟨ga,0,none⟩) xs.length (xs.length + za)) ga za la ∧ Wds wq (.slice (some ⟨g2,0,none⟩) zs.length (zs.length + z2)) g2 z2 lb ∧ Row4 wq c p q r t ∧ Only w wq P)
      case atStart => exact ⟨0,xs,zs,0,0,by omega,rfl,rfl,rfl,rfl,rfl,wx,wz,fun _ _ => rfl,fun _ _ => rfl,Lib.hid (by simp [seg_zero]),Lib.hid (by simp [seg_zero]),by decide,by decide,he,ha,hb,hR,hBw⟩
      case round =>
        clear he ha hb hR hBw
        obtain ⟨k,l1,l2,cA,cB,hgk,rfl,rfl,rfl,n1,n2,w1,w2,g1,g2',s1,s2,bA,bB,he,ha,hb,hR,hBw⟩ := hrel
        by_cases hk : k < xs.length
        · have hkI : (k : Int) < (xs.length : Int) := by omega
          have hkz : k < zs.length := by rw [zx.out]; exact hk
          have hkJ : (k : Int) < (zs.length : Int) := by omega
          have x0 := ha.cell k (by omega)
          have y0 := hb.cell k (by omega)
          rw [g1 k (Nat.le_refl _)] at x0
          rw [g2' k (Nat.le_refl _)] at y0
          have wX := wx.getD k
          have wY := wz.getD k
          have r0 := hR.cell0
          have r1 := hR.cell1
          obtain ⟨X,hX⟩ : ∃ X,xs.getD k 0 = X := ⟨_,rfl⟩
          obtain ⟨Y,hY⟩ : ∃ X,zs.getD k 0 = X := ⟨_,rfl⟩
          rw [hX] at x0 wX
          rw [hY] at y0 wY
          have HX := Lib.hid hX
          have HY := Lib.hid hY
          have Hgk := Lib.hid hgk
          clear hX hY hgk
          go_wp2_with fail
          refine (turnAdd_any X Y p q cA wX wY hp hq bA _).mono ?_
          rintro o u2 ⟨lo,hi,rfl,wlo,hlo,m2⟩
          have bh := carry_bd wX wY hp hq bA wlo hlo
          have he2 := he.below m2 he.lt
          have ha2 := ha.below m2
          have hb2 := hb.below m2
          have hR2 := hR.below m2 hR.lt
          have hB2 := hBw.below m2
          have f1 := ha2.2.free k
          have f0 := ha2.cell k (by omega)
          rw [g1 k (Nat.le_refl _),HX.out] at f0
          have ha3 := ha2.set k (by omega) lo
          have he3 := he2.other (a := ⟨ga,k,none⟩) nea (.int .u64 lo)
          have hb3 := hb2.other (a := ⟨ga,k,none⟩) (Ne.symm nag) (.int .u64 lo)
          have hR3 : Row4 (u2.setCell ⟨ga,k,none⟩ (.int .u64 lo)) c p q r t := (heap_setCell_other u2 ⟨ga,k,none⟩ c (.int .u64 lo) nca).trans hR2
          have hB3 := hB2.set2 (.inl pa) k (.int .u64 lo)
          have r2 := hR3.cell2
          have r3 := hR3.cell3
          clear he ha hb hR hBw x0 y0 r0 r1
          go_wp2_with fail
          generalize u2.setCell ⟨ga,k,none⟩ (.int .u64 lo) = u3 at he3 ha3 hb3 hR3 hB3 r2 r3 ⊢
          clear he2 ha2 hb2 hR2 hB2 f0 f1 m2
          refine (turnAdd_any X Y r t cB wX wY hr ht bB _).mono ?_
          rintro o u4 ⟨lo2,hi2,rfl,wlo2,hlo2,m4⟩
          have bh2 := carry_bd wX wY hr ht bB wlo2 hlo2
          have he4 := he3.below m4 he3.lt
          have ha4 := ha3.below m4
          have hb4 := hb3.below m4
          have hR4 := hR3.below m4 hR3.lt
          have hB4 := hB3.below m4
          have f1 := hb4.2.free k
          have f0 := hb4.cell k (by omega)
          rw [g2' k (Nat.le_refl _),HY.out] at f0
          have hb5 := hb4.set k (by omega) lo2
          have he5 := he4.other (a := ⟨g2,k,none⟩) neg (.int .u64 lo2)
          have ha5 := ha4.other (a := ⟨g2,k,none⟩) nag (.int .u64 lo2)
          have hR5 : Row4 (u4.setCell ⟨g2,k,none⟩ (.int .u64 lo2)) c p q r t := (heap_setCell_other u4 ⟨g2,k,none⟩ c (.int .u64 lo2) ncg).trans hR4
          have hB5 := hB4.set2 pg k (.int .u64 lo2)
          have S1 := Lib.hid (line_step (lo := lo) (hi := hi) hk hkz (show k < l1.length by omega) s1.out (by rw [HX.out,HY.out]; exact hlo))
          have S2 := Lib.hid (line_step (lo := lo2) (hi := hi2) hk hkz (show k < l2.length by omega) s2.out (by rw [HX.out,HY.out]; exact hlo2))
          have G1 : Hid (∀ j,k + 1 ≤ j → (l1.set k lo).getD j 0 = xs.getD j 0) := Lib.hid (fun j hj => by rw [getD_set _ _ _ _ (by omega),if_neg (by omega)]; exact g1 j (by omega))
          have G2 : Hid (∀ j,k + 1 ≤ j → (l2.set k lo2).getD j 0 = zs.getD j 0) := Lib.hid (fun j hj => by rw [getD_set _ _ _ _ (by omega),if_neg (by omega)]; exact g2' j (by omega))
          have N1 : Hid ((l1.set k lo).length = xs.length) := Lib.hid (by rw [List.length_set]; exact n1)
          have N2 : Hid ((l2.set k lo2).length = zs.length) := Lib.hid (by rw [List.length_set]; exact n2)
          have V1 := w1.set k wlo
          have V2 := w2.set k wlo2
          clear r2 r3 g1 g2' s1 s2 hlo hlo2 he3 ha3 hb3 hR3 hB3 he4 ha4 hR4 hB4 hb4 m4
          go_wp2_with fail
          go_roundg (xs.length - k - 1)
          case measure => have := Hgk.out; omega
          case rel => exact ⟨k + 1,_,_,hi,hi2,by omega,by go_num,rfl,rfl,N1.out,N2.out,V1,V2,G1.out,G2.out,S1,S2,bh,bh2,he5,ha5,hb5,hR5,hB5⟩
        · obtain rfl : gk = 0 := by omega
          obtain rfl : k = xs.length := by omega
          have vA : val l1 = A := by
            have h := s1.out
            rw [seg_all,seg_all,seg_all,List.take_of_length_le (by omega),List.take_length,List.take_of_length_le (by have := zx.out; omega),hA] at h
            have b := val_bd w1
            rw [n1] at b
            exact carry_none b hA0 h
          have vB : val l2 = B := by
            have h := s2.out
            rw [seg_all,seg_all,seg_all,List.take_of_length_le (by have := zx.out; omega),List.take_length,List.take_of_length_le (by have := zx.out; omega),hB] at h
            have b := val_bd w2
            rw [n2,zx.out] at b
            exact carry_none b hB0 h
          have tA := trim_row ga _ xs.length (xs.length + za) _ _ ha.2 (by omega) (by rw [List.length_append,List.length_replicate]; omega) (by omega)
          have tB := trim_row g2 _ zs.length (zs.length + z2) _ _ hb.2 (by omega) (by rw [List.length_append,List.length_replicate]; omega) (by have := zx.out; omega)
          obtain ⟨k1,e1,d1,q1,o1,v1⟩ := trim_wds (z := za) n1
          obtain ⟨k2,e2,d2,q2,o2,v2⟩ := trim_wds (z := z2) n2
          rw [e1] at tA
          rw [e2] at tB
          rw [vA] at v1
          rw [vB] at v2
          have c0 := he.cell0
          have c1 := he.cell1
          have f0 := he.free 0
          have f1 := he.free 1
          have gE := (he.set0 (.slice (some ⟨ga,0,none⟩) k1 (xs.length + za))).set1 (.slice (some ⟨g2,0,none⟩) k2 (zs.length + z2))
          have gA := (ha.other (a := ⟨e,0,none⟩) (Ne.symm nea) (.slice (some ⟨ga,0,none⟩) k1 (xs.length + za))).other (a := ⟨e,1,none⟩) (Ne.symm nea) (.slice (some ⟨g2,0,none⟩) k2 (zs.length + z2))
          have gB := (hb.other (a := ⟨e,0,none⟩) (Ne.symm neg) (.slice (some ⟨ga,0,none⟩) k1 (xs.length + za))).other (a := ⟨e,1,none⟩) (Ne.symm neg) (.slice (some ⟨g2,0,none⟩) k2 (zs.length + z2))
          have gW := (hBw.set2 (.inl pe) 0 (.slice (some ⟨ga,0,none⟩) k1 (xs.length + za))).set2 (.inl pe) 1 (.slice (some ⟨g2,0,none⟩) k2 (zs.length + z2))
          have lk1 : (l1.take k1).length = k1 := by rw [List.length_take]; omega
          have lk2 : (l2.take k2).length = k2 := by rw [List.length_take]; omega
          have hfin := And.intro gE (And.intro (show Wds _ (.slice (some ⟨ga,0,none⟩) k1 (xs.length + za)) ga (za + (xs.length - k1)) (l1.take k1) from ⟨by rw [lk1]; congr 1; omega,q1 ▸ gA.2⟩) (And.intro (show Wds _ (.slice (some ⟨g2,0,none⟩) k2 (zs.length + z2)) g2 (z2 + (zs.length - k2)) (l2.take k2) from ⟨by rw [lk2]; congr 1; omega,q2 ▸ gB.2⟩) gW))
          have Hfin := Lib.hid hfin
          have T1 : Hid ((l1.take k1).length ≠ 0 → (l1.take k1).getD ((l1.take k1).length - 1) 0 ≠ 0) := Lib.hid (fun h => by
            rw [lk1] at h ⊢
            rw [List.getD_eq_getElem?_getD,List.getElem?_take_of_lt (by omega),← List.getD_eq_getElem?_getD]
            exact o1 h)
          have T2 : Hid ((l2.take k2).length ≠ 0 → (l2.take k2).getD ((l2.take k2).length - 1) 0 ≠ 0) := Lib.hid (fun h => by
            rw [lk2] at h ⊢
            rw [List.getD_eq_getElem?_getD,List.getElem?_take_of_lt (by omega),← List.getD_eq_getElem?_getD]
            exact o2 h)
          have Hg2 : Hid (g2 = gb ∨ w.heap.size ≤ g2) := Lib.hid (by rcases hg2 with h | h; exact .inl h; exact .inr (by omega))
          clear hfin gE gA gB gW q1 q2 o1 o2 he ha hb hR hBw s1 s2 g1 g2' hA hB n1 n2 vA vB
          have hkI : ¬ (xs.length : Int) < (xs.length : Int) := by omega
          go_wp2_with fail
          refine tA.mono ?_
          rintro o u' ⟨rfl,rfl⟩
          go_wp2_with fail
          refine tB.mono ?_
          rintro o u' ⟨rfl,rfl⟩
          go_wp2_with fail
          refine bodyPost_end (results_none rfl _ _ _) rfl ?_
          exact ⟨rfl,_,_,_,_,_,_,_,Hfin.out.1,Hfin.out.2.1,Hfin.out.2.2.1,w1.take _,w2.take _,v1,v2,T1.out,T2.out,Hg2.out,Hfin.out.2.2.2⟩
end Go.Proofs.YtgccgacpifebbaaGreatDoor
