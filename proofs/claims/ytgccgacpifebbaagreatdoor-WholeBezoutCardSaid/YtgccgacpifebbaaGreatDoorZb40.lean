/- Num0 BezM GcdE -/
import Derived.Test.YtgccgacpifebbaaGreatDoorZb29
import Derived.Test.YtgccgacpifebbaaGreatDoorZb24
import Derived.Test.YtgccgacpifebbaaGreatDoorZb36
import Derived.Test.YtgccgacpifebbaaGreatDoorZb39
import Derived.Test.YtgccgacpifebbaaGreatDoorZb22
namespace Go.Proofs.YtgccgacpifebbaaGreatDoor
open Go.RowKit Go.Shelf
set_option linter.unusedVariables false
attribute [local go_sem] Oper.semAt_some
set_option maxRecDepth 100000 in
set_option maxHeartbeats 2000000 in
theorem number_nil (b t len cap : Nat) (l : List Int) (w : World) (ha : Arr w b t .u64 l) (hl : len ≤ l.length) (hz0 : len = 0) (hm : len ≤ 50) (hw : Words l) :
    Calls Tryz.prog 35 #[.slice (some ⟨b,0,none⟩) len cap] w (RetNat (seg l 0 len) w) := by
  have k1 := ha.lt
  have Hl := Lib.hid hl
  have Hz := Lib.hid hz0
  clear hz0
  clear hl
  have e8 : IntKind.i64.wrap ((len : Int) * 8) = (len : Int) * 8 := by rw [IntKind.wrap_i64]; omega
  have hmk := make8r (8 * len) ((len : Int) * 8) (by omega) (by omega)
  refine (callsIn_wide (n := 5)).1 ?_
  refine callsIn_of_wp_marks Tryz.func35 rfl trivial ?_ rfl
  simp only [Tryz.ntmps35,List.size_toArray,List.length_cons,List.length_nil,Nat.reduceAdd,Nat.reduceSub,Array.replicate_succ,Array.replicate_zero,List.push_toArray,List.append_toArray,List.nil_append,List.cons_append]
  gi_wp2_with (refine ⟨trivial,?_⟩; gi_at_call 57; refine (back_in Fence.wide 4 trivial rfl _ _ _ _).mono ?_; rintro e w' ⟨rfl,rfl⟩)
  have hz : ((((w.alloc (.cells #[.int .u64 0,.slice none 0 0] 26)).alloc (.cells (zeros .u8 (8 * len)) 5)).alloc (.cells #[.slice (some ⟨w.heap.size + 1,0,none⟩) 0 (8 * len)] 22)).alloc (.cells #[.slice (some ⟨b,0,none⟩) len cap] 24)).heap.size = w.heap.size + 1 + 1 + 1 + 1 := by simp
  have i0 : NumI w b len cap l 0 ((((w.alloc (.cells #[.int .u64 0,.slice none 0 0] 26)).alloc (.cells (zeros .u8 (8 * len)) 5)).alloc (.cells #[.slice (some ⟨w.heap.size + 1,0,none⟩) 0 (8 * len)] 22)).alloc (.cells #[.slice (some ⟨b,0,none⟩) len cap] 24)) := by
    refine ⟨?_,?_,?_,?_,by go_grown⟩
    · have := ((Arr.zeros (w.alloc (.cells #[.int .u64 0,.slice none 0 0] 26)) 5 .u8 (8 * len) (w.heap.size + 1) (by simp)).alloc (.cells #[.slice (some ⟨w.heap.size + 1,0,none⟩) 0 (8 * len)] 22)).alloc (.cells #[.slice (some ⟨b,0,none⟩) len cap] 24)
      simpa [be] using this
    · exact (heap_old _ _ _ (by simp; omega)).trans ((heap_old _ _ _ (by simp; omega)).trans ((heap_old _ _ _ (by simp)).trans (heap_new _ _ _ rfl)))
    · exact (heap_old _ _ _ (by simp)).trans (heap_new _ _ _ (by simp))
    · exact heap_new _ _ _ (by simp)
  generalize ((((w.alloc (.cells #[.int .u64 0,.slice none 0 0] 26)).alloc (.cells (zeros .u8 (8 * len)) 5)).alloc (.cells #[.slice (some ⟨w.heap.size + 1,0,none⟩) 0 (8 * len)] 22)).alloc (.cells #[.slice (some ⟨b,0,none⟩) len cap] 24)) = W0 at i0 hz ⊢
  refine wpIn_steps rfl (by decide) (gf := 87) (lb := #[.pointer (some ⟨w.heap.size + 1 + 1 + 1,0,none⟩)]) rfl trivial (enters_of Tryz.func87 (by kernel_rfl) rfl)
    len (fun k => #[.int .i64 ((len - 1 - k : Nat) : Int),.int .u64 (l.getD (len - 1 - k) 0)]) (fun _ => rfl) (fun k W => NumI w b len cap l k W) (numI_own w b len cap _ l (by omega)) i0
    (fun l' J W hJ _ hY h0 => back_steps Fence.wide 4 trivial rfl (by decide) l' (w.heap.size + 1 + 1 + 1) len cap (some ⟨b,0,none⟩) (fun k => l.getD (len - 1 - k) 0) (by omega) J (fun k W h => ?cells) hY W h0)
    (fun k => { tmps := #[.slice (some ⟨b,0,none⟩) len cap,undef,.pointer (some ⟨w.heap.size,0,none⟩),.pointer (some ⟨w.heap.size + 1 + 1,0,none⟩),undef,.int .u64 (l.getD (len - 1 - k) 0),undef,.slice (some ⟨b,0,none⟩) len cap,.int .i64 (len : Int),.int .i64 ((len : Int) * 8),.slice (some ⟨w.heap.size + 1,0,none⟩) 0 (8 * len),.slice (some ⟨b,0,none⟩) len cap,.func (.func 87) #[] #[.pointer (some ⟨w.heap.size + 1 + 1 + 1,0,none⟩)],.int .i64 ((len - 1 - k : Nat) : Int),.int .u64 (l.getD (len - 1 - k) 0),undef,undef,undef,undef,undef,undef,undef,undef,undef,undef,undef,undef,undef,undef,undef],defers := [] }) ?assign ?body ?done
  case cells =>
    obtain ⟨hak,h1,h2,h3,hg⟩ := hJ k W h
    refine ⟨by rw [cell_of_row W _ 0 _ _ (0,0) h3]; rfl,fun hk => ⟨b,rfl,?_⟩⟩
    exact (ha.below hg k1).cell (len - 1 - k) (by have := Hl.out; omega)
  case assign =>
    intro l' k W K hK
    generalize l.getD (len - 1 - k) 0 = z at hK ⊢
    generalize len - 1 - k = j at hK ⊢
    gi_wp2
    exact hK
  case body =>
    rintro l' k V hk hn
    have := Hz.out
    omega
  case done =>
    rintro D W hD ⟨hak,h0,h2,h3,hg⟩ hK
    have hlt := (Array.getElem?_eq_some_iff.1 hK).1
    obtain rfl := Hz.out
    have e80 : 8 * 0 = 0 := rfl
    rw [e80] at h2
    have fr : Calls Tryz.prog 62 #[.slice (some ⟨w.heap.size + 1,0,none⟩) 0 0] W (RetNat (seg l 0 0) W) := from_nil _ _ _ W fun w' _ => trimLeft_nil _ _ _
    obtain ⟨X,hX⟩ : ∃ X,seg l 0 0 = X := ⟨_,rfl⟩
    rw [hX] at fr
    have HX := Lib.hid hX
    clear hX
    have bx : W.cell? ⟨w.heap.size + 1 + 1,0,none⟩ = some (.slice (some ⟨w.heap.size + 1,0,none⟩) 0 0) := by rw [cell_of_row W _ 0 _ _ (0,0) h2]; rfl
    have v0 : Var W w.heap.size (.int .u64 0) (.slice none 0 0) := ⟨h0,_,_,_,rfl⟩
    gi_wp2_with (refine ⟨trivial,?_⟩; gi_at_call 62; refine (callsIn_wide.2 fr).mono ?_; rintro e W2 ⟨v,rfl,hv,hb⟩; obtain ⟨va,vp,vl,vc,rfl⟩ := hv.shape; have v2 := v0.below hb v0.lt; have c0 := v2.c0; have c1 := v2.c1; have f0 := v2.free 0; have f1 := v2.free 1)
    have hK2 : ((W2.setCell ⟨w.heap.size,0,none⟩ (.int .u64 va)).setCell ⟨w.heap.size,1,none⟩ (.slice vp vl vc)).heap[D]? = some (.deferred (some [])) := (heap_two (by omega) _ _).trans ((hb.block D hlt).trans hK)
    have r0 := v2.set (.int .u64 va) vp vl vc
    have hv2 := hv.two v2 (.int .u64 va) (.slice vp vl vc)
    have hbw := below_two (hg.trans (hb.mono hg.size)) (Nat.le_refl _) (.int .u64 va) (.slice vp vl vc)
    generalize (W2.setCell ⟨w.heap.size,0,none⟩ (.int .u64 va)).setCell ⟨w.heap.size,1,none⟩ (.slice vp vl vc) = Z at hK2 r0 hv2 hbw ⊢
    refine ⟨by simp,.inl ⟨_,_,rfl,run_takeDeferred hK2,?_⟩⟩
    have hp := grownBy_putObj' Z D (.deferred none)
    have hpr : ∀ r,some D = some r → ∃ o : Obj,Z.heap[r]? = some o ∧ o.isCells = false := fun r e => by cases e; exact ⟨_,hK2,rfl⟩
    have l2 := r0.grown hp (by simp; omega)
    refine ⟨.agg #[.int .u64 va,.slice vp vl vc],?_,_,rfl,by rw [HX.out]; exact hv2.putObj hp hpr,hbw.grown hp hbw.size (fun k e => by cases e; omega)⟩
    simp [results,Tryz.results35,asAddr,run_loadVar_nat l2]
theorem number_all (b t len cap : Nat) (l : List Int) (w : World) (ha : Arr w b t .u64 l) (hl : len ≤ l.length) (hm : len ≤ 50) (hw : Words l) :
    Calls Tryz.prog 35 #[.slice (some ⟨b,0,none⟩) len cap] w (RetNat (seg l 0 len) w) := by
  rcases Nat.eq_zero_or_pos len with h | h
  · exact number_nil b t len cap l w ha hl h hm hw
  · exact number_row b t len cap l w ha hl h hm hw
end Go.Proofs.YtgccgacpifebbaaGreatDoor
namespace Go.Proofs.YtgccgacpifebbaaGreatDoor
open Go.RowKit
set_option linter.unusedVariables false
/-- The numbers of a turn: those of one line are of unlike signs, or one is 0; what it turns over is 1 in size. -/
def Shaped (p q r t y x : Int) : Prop := ∃ s a b c d : Int,(s = 1 ∨ s = -1) ∧ 0 ≤ a ∧ 0 ≤ b ∧ 0 ≤ c ∧ 0 ≤ d ∧ a < 2147483648 ∧ b < 2147483648 ∧ c < 2147483648 ∧ (d < 2147483648 ∨ d * y ≤ x) ∧ p = s * a ∧ q = -(s * b) ∧ r = -(s * c) ∧ t = s * d ∧ a * d - b * c = s
/-- T0 times A is X, T1 times A is Y, beside some times B; how great both are. -/
def BezI (A B X Y T0 T1 : Int) : Prop := ∃ s u v : Int,(s = 1 ∨ s = -1) ∧ 0 ≤ u ∧ 0 ≤ v ∧ T0 = s * u ∧ T1 = -(s * v) ∧ u * Y + v * X = B ∧ v ≤ B ∧ u ≤ 4294967296 * B ∧ B ∣ X - T0 * A ∧ B ∣ Y - T1 * A
theorem bezI_start (A B : Int) (hB : 0 < B) : BezI A B A B 1 0 :=
  ⟨1,1,0,.inl rfl,by decide,by decide,by decide,by decide,by omega,by omega,by omega,⟨0,by omega⟩,⟨1,by omega⟩⟩
theorem le_of_mul {a b c : Int} (h : a * b ≤ c) (ha : 0 ≤ a) (hb : 0 < b) : a ≤ c := by
  have : a * 1 ≤ a * b := Int.mul_le_mul_of_nonneg_left (by omega) ha
  omega
theorem BezI.small {A B X Y T0 T1 : Int} (h : BezI A B X Y T0 T1) (hX : 0 ≤ X) (hY : 0 < Y) : (T0 ≤ B ∧ -B ≤ T0) ∧ (T1 ≤ B ∧ -B ≤ T1) := by
  obtain ⟨s,u,v,hs,hu,hv,e0,e1,hb,hvB,_,_,_⟩ := h
  have h1 : 0 ≤ v * X := Int.mul_nonneg hv hX
  have h2 : u ≤ B := le_of_mul (by omega) hu hY
  rcases hs with e | e <;> subst e <;> simp only [Int.one_mul,Int.neg_mul,Int.neg_neg] at e0 e1 <;> omega
theorem BezI.end {A B X T0 T1 : Int} (h : BezI A B X 0 T0 T1) : T0 ≤ 4294967296 * B ∧ -(4294967296 * B) ≤ T0 := by
  obtain ⟨s,u,v,hs,hu,hv,e0,e1,hb,hvB,h1,_,_⟩ := h
  rcases hs with e | e <;> subst e <;> simp only [Int.one_mul,Int.neg_mul,Int.neg_neg] at e0 e1 <;> omega
theorem BezI.step {A B X Y T0 T1 p q r t : Int} (h : BezI A B X Y T0 T1) (hT : Shaped p q r t Y X) (hX : 0 ≤ X) (hY : 0 < Y) (hY' : 0 ≤ r * X + t * Y) (hX' : r * X + t * Y < p * X + q * Y) :
    BezI A B (p * X + q * Y) (r * X + t * Y) (T0 * p + T1 * q) (T0 * r + T1 * t) := by
  obtain ⟨s,u,v,hs,hu,hv,e0,e1,hb,hvB,huB,d0,d1⟩ := h
  obtain ⟨z,a,b,c,d,hz,ha,hb',hc,hd,a31,b31,c31,d31,ep,eq,er,et,edet⟩ := hT
  have hvX : 0 ≤ v * X := Int.mul_nonneg hv hX
  have huY : 0 ≤ u * Y := Int.mul_nonneg hu (by omega)
  have hu2 : u ≤ B := le_of_mul (by omega) hu hY
  have hB0 : 0 ≤ B := by omega
  have k1 : 0 ≤ a * u := Int.mul_nonneg ha hu
  have k2 : 0 ≤ b * v := Int.mul_nonneg hb' hv
  have k3 : 0 ≤ c * u := Int.mul_nonneg hc hu
  have k4 : 0 ≤ d * v := Int.mul_nonneg hd hv
  have m1 : a * u ≤ 2147483648 * B := Int.mul_le_mul (by omega) hu2 hu (by omega)
  have m2 : b * v ≤ 2147483648 * B := Int.mul_le_mul (by omega) hvB hv (by omega)
  have hsum : (a * u + b * v) * (r * X + t * Y) + (c * u + d * v) * (p * X + q * Y) = B := by
    have : (a * u + b * v) * (r * X + t * Y) + (c * u + d * v) * (p * X + q * Y) = z * (a * d - b * c) * (u * Y + v * X) := by
      subst ep eq er et
      grind
    rw [this,edet,hb]
    rcases hz with e | e <;> subst e <;> simp
  have n1 : 0 ≤ (a * u + b * v) * (r * X + t * Y) := Int.mul_nonneg (by omega) hY'
  refine ⟨z * s,a * u + b * v,c * u + d * v,?_,by omega,by omega,?_,?_,hsum,le_of_mul (b := p * X + q * Y) (by omega) (by omega) (by omega),by omega,?_,?_⟩
  · rcases hz with e | e <;> rcases hs with e' | e' <;> subst e <;> subst e' <;> simp
  · subst ep eq e0 e1; grind
  · subst er et e0 e1; grind
  · obtain ⟨k,hk⟩ := d0
    obtain ⟨m,hm⟩ := d1
    exact ⟨p * k + q * m,by grind⟩
  · obtain ⟨k,hk⟩ := d0
    obtain ⟨m,hm⟩ := d1
    exact ⟨r * k + t * m,by grind⟩
end Go.Proofs.YtgccgacpifebbaaGreatDoor
namespace Go.Proofs.YtgccgacpifebbaaGreatDoor
open Go.RowKit
set_option linter.unusedVariables false
theorem Wds.row {w : World} {v : Value} {g z : Nat} {xs : List Int} {n : Int} (h : Wds w v g z xs) (wx : Words xs) (hv : val xs = n) (ht : xs.length ≠ 0 → xs.getD (xs.length - 1) 0 ≠ 0) : IsRow w v g xs.length (xs.length + z) n := by
  refine ⟨h.1,Nat.le_add_right _ _,_,h.2,by rw [List.length_append,List.length_replicate],wx.append (Words.replicate z),by rw [List.take_left']; exact hv; rfl,fun hl => ?_⟩
  rw [List.getD_eq_getElem?_getD,List.getElem?_append_left (by omega),← List.getD_eq_getElem?_getD]
  exact ht hl
theorem IsRow.wds {w : World} {v : Value} {g L : Nat} {n : Int} (h : IsRow w v g L L n) : ∃ xs,xs.length = L ∧ Wds w v g 0 xs ∧ Words xs ∧ val xs = n ∧ (xs.length ≠ 0 → xs.getD (xs.length - 1) 0 ≠ 0) := by
  obtain ⟨hv,-,l,ha,hl,hw,hn,hz⟩ := h
  refine ⟨l,hl,⟨by rw [hl]; exact hv,by simpa using ha⟩,hw,by rw [← hn,List.take_of_length_le (by omega)],by rw [hl]; exact hz⟩
/-- Euclid's row in block e: the words of x in block ga, those of y in block gb. -/
def ERow (w : World) (e ga gb : Nat) (x y : Int) : Prop := ∃ ua ub za zb xs ys,EBox w e ua ub ∧ Wds w ua ga za xs ∧ Wds w ub gb zb ys ∧ Words xs ∧ Words ys ∧ val xs = x ∧ val ys = y ∧ (xs.length ≠ 0 → xs.getD (xs.length - 1) 0 ≠ 0) ∧ (ys.length ≠ 0 → ys.getD (ys.length - 1) 0 ≠ 0) ∧ xs.length ≤ 40 ∧ ys.length ≤ 40 ∧ ga ≠ gb ∧ e ≠ ga ∧ e ≠ gb
theorem ERow.keep {w w' : World} {e ga gb : Nat} {x y : Int} (h : ERow w e ga gb x y) (h1 : w'.heap[e]? = w.heap[e]?) (h2 : w'.heap[ga]? = w.heap[ga]?) (h3 : w'.heap[gb]? = w.heap[gb]?) : ERow w' e ga gb x y := by
  obtain ⟨ua,ub,za,zb,xs,ys,he,ha,hb,r⟩ := h
  exact ⟨ua,ub,za,zb,xs,ys,h1.trans he,⟨ha.1,h2.trans ha.2⟩,⟨hb.1,h3.trans hb.2⟩,r⟩
theorem ERow.lt {w : World} {e ga gb : Nat} {x y : Int} (h : ERow w e ga gb x y) : e < w.heap.size ∧ ga < w.heap.size ∧ gb < w.heap.size := by
  obtain ⟨ua,ub,za,zb,xs,ys,he,ha,hb,r⟩ := h
  exact ⟨he.lt,ha.lt,hb.lt⟩
theorem ERow.below {w w' : World} {e ga gb : Nat} {x y : Int} (h : ERow w e ga gb x y) (hb : Below w.heap.size w w') : ERow w' e ga gb x y :=
  h.keep (hb.block e h.lt.1) (hb.block ga h.lt.2.1) (hb.block gb h.lt.2.2)
theorem row_len_le {xs ys : List Int} (wx : Words xs) (wy : Words ys) (hy : ys.length ≠ 0 → ys.getD (ys.length - 1) 0 ≠ 0) (h : val ys ≤ val xs) : ys.length ≤ xs.length := by
  by_cases h0 : ys.length = 0
  · omega
  · have e := val_take_succ (l := ys) (k := ys.length - 1) (by omega)
    rw [show ys.length - 1 + 1 = ys.length by omega,List.take_length] at e
    have b1 := (val_bd (wy.take (ys.length - 1))).1
    have b2 := (val_bd wx).2
    have hx := wy.getD (ys.length - 1)
    have hz := hy h0
    have hp := pw_pos (ys.length - 1)
    have k : pw (ys.length - 1) * 1 ≤ pw (ys.length - 1) * ys.getD (ys.length - 1) 0 := Int.mul_le_mul_of_nonneg_left (by unfold Word at hx; omega) (by omega)
    rcases Nat.lt_or_ge (ys.length - 1) xs.length with h1 | h1
    · omega
    · have := pw_mono h1
      omega
/-- What a step brings: another row, of numbers that share as much. -/
def Stepped (w : World) (e ga gb : Nat) (x y : Int) (rr : Ending) (w' : World) : Prop :=
  ∃ v p q r t ga' gb',rr = .returned v ∧ IsTurn w' v p q r t ∧ ERow w' e ga' gb' (p * x + q * y) (r * x + t * y) ∧ 0 ≤ r * x + t * y ∧ r * x + t * y < y ∧ r * x + t * y < p * x + q * y ∧ p * x + q * y ≤ y ∧ Int.gcd (p * x + q * y) (r * x + t * y) = Int.gcd x y ∧
    (ga' = ga ∨ ga' = gb) ∧ (gb' = gb ∨ w.heap.size ≤ gb') ∧ Only w w' (fun k => k = e ∨ k = ga ∨ k = gb) ∧ Shaped p q r t y x
set_option maxHeartbeats 1000000 in
theorem step_any (e ga gb : Nat) (x y : Int) (w : World) (h : ERow w e ga gb x y) (hy : 0 < y) : Calls Tryz.prog 34 #[.pointer (some ⟨e,0,none⟩)] w (Stepped w e ga gb x y) := by
  have hE := h
  obtain ⟨ua,ub,za,zb,xs,ys,he,ha,hb,wx,wy,vx,vy,tx,ty,lx,ly,nab,nea,neb⟩ := h
  have ra := ha.row wx vx tx
  have rb := hb.row wy vy ty
  have hyl : ys.length ≠ 0 := by
    intro h0
    have : ys = [] := List.eq_nil_of_length_eq_zero h0
    subst this
    simp [val] at vy
    omega
  obtain ⟨S,i,V1,V2,hV1,hV2,b1,b2,hto⟩ := tops_any e ga gb xs.length ys.length (xs.length + za) (ys.length + zb) x y ua ub w he ra rb (by omega) (by omega) (.inr hyl)
  obtain ⟨p,q,r,t,hT,hsu⟩ := sure_any V1 V2 b1 b2
  have hto' : ∀ W,Below w.heap.size w W → Calls Tryz.prog 65 #[.pointer (some ⟨e,0,none⟩)] W fun ev W' => ev = .returned (.tuple #[.int .i64 V1,.int .i64 V2]) ∧ Below W.heap.size W W' := fun W hW =>
    (hto W (he.below hW he.lt) (ra.below hW) (rb.below hW)).mono fun ev W' ⟨h1,m,h2⟩ => ⟨h1,by rw [h2]; exact below_drewN (Below.refl _ _) m⟩
  by_cases hq : q = 0
  · subst hq
    have xb := (val_bd wx).2
    rw [vx] at xb
    have x40 : x < pw 40 := Int.lt_of_lt_of_le xb (pw_mono lx)
    have yb := (val_bd wy).2
    rw [vy] at yb
    have y40 : y < pw 40 := Int.lt_of_lt_of_le yb (pw_mono ly)
    have r0 := Int.emod_nonneg x (show y ≠ 0 by omega)
    have r1 := Int.emod_lt_of_pos x hy
    have hdm := Int.mul_ediv_add_emod x y
    rw [Int.mul_comm] at hdm
    have hgc : Int.gcd y (x % y) = Int.gcd x y := by
      rw [Int.gcd_comm x y]
      exact gcd_turn (a := 1) (b := 0) (c := -(x / y)) (d := 1) (e := 1) (f := 0) (g := x / y) (h := 1) (by omega) (by rw [Int.neg_mul]; omega) (by omega) (by omega)
    have num : ∀ (W : World) (v : Value) (g z : Nat) (l : List Int) (n : Int),Wds W v g z l → Words l → val l = n → l.length ≤ 40 → Calls Tryz.prog 35 #[v] W (RetNat n W) := by
      rintro W v g z l n ⟨rfl,h2⟩ hw hv h40
      have h := number_all g 23 l.length (l.length + z) _ W h2 (by rw [List.length_append]; omega) (by omega) (hw.append (Words.replicate z))
      rw [seg_all,List.take_left'] at h
      · rw [hv] at h; exact h
      · rfl
    have hE' := hE.lt
    obtain rfl := ha.1
    obtain rfl := hb.1
    refine (step_div (fun v W => ∃ g L,w.heap.size ≤ g ∧ L ≤ 40 ∧ IsRow W v g L L (x % y)) (fun v W W' ⟨g,L,h1,h2,h3⟩ k => ⟨g,L,h1,h2,h3.below k⟩) (fun v W W' k ⟨g,L,h1,h2,h3⟩ k' => ⟨g,L,h1,h2,h3.touch k'⟩) e (some ⟨ga,0,none⟩) (some ⟨gb,0,none⟩) _ _ _ _ V1 V2 p 0 r t x y (x / y) (x % y) w he hto' hsu
      (fun W hW => num W _ ga za xs x (ha.belowB hW ha.lt) wx vx lx) (fun W hW => num W _ gb zb ys y (hb.belowB hW hb.lt) wy vy ly)
      (fun v u W h1 h2 => div_any 40 (by decide) v u x y W h1 h2 x40 (by omega)) ?_).mono ?_
    · intro v W hW h
      refine (wordsOf_any 40 (by decide) v (x % y) W h (by omega)).mono ?_
      rintro ev W' ⟨g,L,u,e1,h1,h2,h3,h4⟩
      have hu := h1.1
      exact ⟨some ⟨g,0,none⟩,L,L,by rw [e1,hu],⟨g,L,Nat.le_trans hW.size h3,h2,hu ▸ h1⟩,h4⟩
    · rintro rr w' ⟨v,p',l,c,e1,e2,e3,⟨g,L,k1,k2,k3⟩,k4⟩
      obtain ⟨zs,z1,z2,z3,z4,z5⟩ := k3.wds
      have ex : 0 * x + 1 * y = y := by omega
      have ey : 1 * x + -(x / y) * y = x % y := by rw [Int.neg_mul]; omega
      refine ⟨v,0,1,1,-(x / y),gb,g,e1,e2,?_,by rw [ey]; exact r0,by rw [ey]; exact r1,by rw [ex,ey]; exact r1,by rw [ex]; exact Int.le_refl _,by rw [ex,ey]; exact hgc,.inr rfl,.inr k1,k4.mono (fun k hk _ => .inl hk),-1,0,1,1,x / y,.inr rfl,by decide,by decide,by decide,Int.ediv_nonneg (by have := (val_bd wx).1; omega) (by omega),by decide,by decide,by decide,.inr (Int.ediv_mul_le x (by omega)),by simp,by simp,by simp,by simp,by simp⟩
      rw [ex,ey]
      exact ⟨_,_,zb,0,ys,zs,e3,⟨rfl,(k4.2.2.2.2 gb hb.lt (fun h => neb h.symm)).trans hb.2⟩,z2,wy,z3,vy,z4,ty,z5,ly,by omega,by omega,neb,by omega⟩
  · have hpS : (0 : Int) < 2 ^ S := Int.pow_pos (by decide)
    have hpD : 0 < 2 * pw i := by have := pw_pos i; omega
    obtain ⟨B0,BA,Ay,hg,yx,s,a,b,c,d,hs,a0,b0,c0,d0,ad,bd,cd,d31,ep,eq,er,et,edet⟩ := hT.good hq hpS hpD hV1 hV2 b1.2
    have hshape : Shaped p q r t y x := ⟨s,a,b,c,d,hs,a0,b0,c0,d0,by omega,by omega,by omega,.inl d31,ep,eq,er,et,edet⟩
    have hp31 : (-2147483648 < p ∧ p < 2147483648) ∧ (-2147483648 < q ∧ q < 2147483648) ∧ (-2147483648 < r ∧ r < 2147483648) ∧ (-2147483648 < t ∧ t < 2147483648) := by
      rcases hs with e | e <;> subst e <;> simp only [Int.one_mul,Int.neg_mul,Int.neg_neg] at ep eq er et <;> subst ep eq er et <;> refine ⟨⟨?_,?_⟩,⟨?_,?_⟩,⟨?_,?_⟩,?_,?_⟩ <;> omega
    obtain ⟨p31,q31,r31,t31⟩ := hp31
    have hlen := row_len_le wx wy ty (by omega)
    have xb := (val_bd wx).2
    rw [vx] at xb
    have q0 : (q != 0) = true := by simpa using hq
    rw [q0] at hsu
    have hby : ∀ W,Below w.heap.size w W → w.heap.size < W.heap.size → Calls Tryz.prog 66 #[.pointer (some ⟨e,0,none⟩),.agg #[.int .i64 p,.int .i64 q,.int .i64 r,.int .i64 t]] W fun ev W' => ev = .returned (.tuple #[]) ∧
        (∃ gb',gb' ≠ w.heap.size ∧ (gb' = gb ∨ w.heap.size ≤ gb') ∧ ERow W' e ga gb' (p * x + q * y) (r * x + t * y)) ∧ Only W W' (fun k => k = e ∨ k = ga ∨ k = gb) := by
      intro W hW hlt
      refine (by_any e ga gb za zb ua ub xs ys p q r t (p * x + q * y) (r * x + t * y) W nab nea neb (he.below hW he.lt) (ha.belowB hW ha.lt) (hb.belowB hW hb.lt) wx wy hlen (by omega) (by omega) p31 q31 r31 t31 (by rw [vx,vy]) (by rw [vx,vy]) ⟨by omega,by omega⟩ ⟨by omega,by omega⟩).mono ?_
      rintro ev W' ⟨e1,ua',ub',gb',za',zb',xs',ys',k1,k2,k3,k4,k5,k6,k7,k8,k9,k10,k11⟩
      have lg := hE.lt
      have hn : gb' ≠ w.heap.size := by rcases k10 with k | k <;> omega
      have l1 := row_len_le wx k4 k8 (by rw [k6,vx]; omega)
      have l2 := row_len_le wx k5 k9 (by rw [k7,vx]; omega)
      refine ⟨e1,⟨gb',hn,by rcases k10 with k | k; exact .inl k; exact .inr (by omega),ua',ub',za',zb',xs',ys',k1,k2,k3,k4,k5,k6,k7,k8,k9,by omega,by omega,?_,nea,?_⟩,k11⟩
      · rcases k10 with k | k <;> omega
      · rcases k10 with k | k <;> omega
    refine (step_sure (fun W' => ∃ gb',gb' ≠ w.heap.size ∧ (gb' = gb ∨ w.heap.size ≤ gb') ∧ ERow W' e ga gb' (p * x + q * y) (r * x + t * y)) (fun k => k = e ∨ k = ga ∨ k = gb) e V1 V2 p q r t w he.lt p31 q31 r31 t31 ?_ ?_ hto' hsu hby).mono ?_
    · have := hE.lt
      rintro k (h | h | h) <;> omega
    · rintro W W' ⟨gb',h1,h2,h3⟩ _ hk
      have l := h3.lt
      have := hE.lt
      exact ⟨gb',h1,h2,h3.keep (hk e l.1 (by omega)) (hk ga l.2.1 (by omega)) (hk gb' l.2.2 h1)⟩
    · rintro rr w' ⟨v,e1,e2,⟨gb',h1,h2,h3⟩,h4⟩
      exact ⟨v,p,q,r,t,ga,gb',e1,e2,h3,by omega,by omega,BA,Ay,hg,.inl rfl,h2,h4,hshape⟩
end Go.Proofs.YtgccgacpifebbaaGreatDoor
