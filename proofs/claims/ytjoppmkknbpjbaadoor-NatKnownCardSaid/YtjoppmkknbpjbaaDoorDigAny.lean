/- Contract of appendDigits, whatever the powers: by halves. -/
import Derived.Test.YtjoppmkknbpjbaaDoorNats
import Derived.Test.YtjoppmkknbpjbaaDoorBack
namespace Go.Proofs.YtjoppmkknbpjbaaDoor
open Go.RowKit
set_option linter.unusedVariables false

theorem ten_split (k : Nat) : (10 : Int) ^ (19 * 2 ^ (k + 1)) = 10 ^ (19 * 2 ^ k) * 10 ^ (19 * 2 ^ k) := by
  rw [← Int.pow_add, Nat.pow_succ]
  congr 1
  omega
theorem codes_join {v : Value} {w : World} {B : Nat} {e : TypeId} {xs : List Int} {t1 t2 : ByteArray} (h : Own w B .u8 e v (xs ++ codes t1 ++ codes t2)) : Own w B .u8 e v (xs ++ codes (t1 ++ t2)) := by
  rw [codes_app, ← List.append_assoc]
  exact h
theorem digits_join {t1 t2 : ByteArray} {m : Nat} {Q R P X : Int} (h1 : t1.size = m) (h2 : t2.size = m) (e1 : decTo t1 m = Q) (e2 : decTo t2 m = R) (hP : (10 : Int) ^ m = P) (hX : Q * P + R = X) : decTo (t1 ++ t2) (m + m) = X := by
  have e := decTo_app t1 t2 m
  rw [h1, e1, e2, hP, hX] at e
  exact e
/-- What Div answers: quotient, rest, and that there is one. -/
theorem div_parts {A P : Int} (h0 : 0 ≤ A) (hP : 0 < P) (hA : A < P * P) : A / P < P ∧ A % P < P ∧ 0 ≤ A / P ∧ 0 ≤ A % P ∧ A / P * P + A % P = A := by
  refine ⟨Int.ediv_lt_of_lt_mul hP hA, Int.emod_lt_of_pos _ hP, Int.ediv_nonneg h0 (Int.le_of_lt hP), Int.emod_nonneg _ (by omega), ?_⟩
  have := Int.mul_ediv_add_emod A P
  rw [Int.mul_comm] at this
  exact this
set_option maxRecDepth 100000 in
set_option maxHeartbeats 8000000 in
theorem digits_step (K : Nat) (hK : K ≤ 200) (k m : Nat) (P : Int) (hm : m ≤ 100000) (hP : (10 : Int) ^ m = P) (P0 : 0 < P)
   (ih : ∀ (cp pb : Nat) (a : Value) (A : Int) (v : Value) (xs : List Int) (B : Nat) (w : World), k ≤ cp → Tab w → Pows w pb k → IsNat w a A → A < P → A < pw K → B ≤ w.heap.size → Own w B .u8 5 v xs → xs.length + m ≤ 500000 →
     Calls Tryd.prog 33 #[a, v, .slice (some ⟨pb, 0, none⟩) k cp] w (RetDigits v xs B m A w))
   (cp pb : Nat) (hcp : k + 1 ≤ cp) (hk1 : k + 1 ≤ 1000000) (x : Int) (p : Option Addr) (l c : Nat) (A : Int) (v : Value) (xs : List Int) (B : Nat) (w : World) (htab : Tab w) (hpow : Pows w pb (k + 1)) (hPk : (10 : Int) ^ (19 * 2 ^ k) = P) (ha : IsNat w (.agg #[.int .u64 x, .slice p l c]) A) (hA : A < P * P) (hAK : A < pw K) (hB : B ≤ w.heap.size) (hown : Own w B .u8 5 v xs) (hxs : xs.length + (m + m) ≤ 500000) :
   Calls Tryd.prog 33 #[.agg #[.int .u64 x, .slice p l c], v, .slice (some ⟨pb, 0, none⟩) (k + 1) cp] w (RetDigits v xs B (m + m) A w) := by
 obtain ⟨pv, cv, hv⟩ := hown.shape
 obtain ⟨px, pp, pl, pc, q0, q1, hpn⟩ := hpow k (by omega)
 rw [hPk] at hpn
 have hpn0 : P ≠ 0 := by omega
 obtain ⟨Q, hQ⟩ : ∃ Q, A / P = Q := ⟨_, rfl⟩
 obtain ⟨Rm, hRm⟩ : ∃ Rm, A % P = Rm := ⟨_, rfl⟩
 have dp := div_parts ha.nonneg P0 hA
 rw [hQ, hRm] at dp
 obtain ⟨QP, RP, Q0, R0, hsum⟩ := dp
 have QA : Q ≤ A := by rw [← hQ]; exact Int.ediv_le_self _ ha.nonneg
 have RA : Rm ≤ A := by
   have := Int.mul_nonneg Q0 (Int.le_of_lt P0)
   omega
 have QK : Q < pw K := by omega
 have RK : Rm < pw K := by omega
 have dv := fun W (h1 : IsNat W (.agg #[.int .u64 x, .slice p l c]) A) (h2 : IsNat W (.agg #[.int .u64 px, .slice pp pl pc]) P) => div_any K hK _ _ A P W h1 h2 hAK hpn0
 rw [hQ, hRm] at dv
 have Hsum := Lib.hid hsum
 have HQP := Lib.hid QP
 have HRP := Lib.hid RP
 have HQK := Lib.hid QK
 have HRK := Lib.hid RK
 have HP := Lib.hid hP
 clear hsum QP RP QK RK hP hQ hRm hA hAK QA RA Q0 R0 hPk P0 hpn0
 subst hv
 have hk2 : k ≤ cp := by omega
 have hki : (k : Int) < (k : Int) + 1 := by omega
 have hk3 : (k : Int) ≤ (cp : Int) := by omega
 have lpb := World.block_lt_of_cell? w ⟨pb, k * 2, none⟩ q0
 have u0 : Var (w.alloc (.cells #[.int .u64 x, .slice p l c] 25)) w.heap.size (.int .u64 x) (.slice p l c) := Var.new w _ _ _ _ _ rfl
 have hb0 : Below w.heap.size w (w.alloc (.cells #[.int .u64 x, .slice p l c] 25)) := by go_grown
 have q0 := (bcell hb0).1 pb (k * 2) lpb ▸ q0
 have q1 := (bcell hb0).1 pb (k * 2 + 1) lpb ▸ q1
 have l0 := u0.lt
 go_enter Tryd.func33, Tryd.ntmps33
 go_wp2_with fail
 have lpb1 : pb < (w.alloc (.cells #[.int .u64 x, .slice p l c] 25)).heap.size := by rw [World.size_alloc]; omega
 replace ha := ha.below hb0
 replace hpn := hpn.below hb0
 generalize (w.alloc (.cells #[.int .u64 x, .slice p l c] 25)) = w1 at *
 refine wpIn_wide (n := 5) |>.1 ?_
 refine region_ways (by kernel_rfl) fun R hR => ?_
 have H111111111111111 : ∀ (W : World) (acc : Below w1.heap.size w1 W) (xq : Int) (pq : Option Addr) (lq cq : Nat) (xr : Int) (pr : Option Addr) (lr cr : Nat) (hz : IsNat W (.agg #[.int .u64 xq, .slice pq lq cq]) Q) (hs : IsNat W (.agg #[.int .u64 xr, .slice pr lr cr]) Rm) (bq : Nat) (hbq : Var W bq (.int .u64 xq) (.slice pq lq cq)) (hbqn : w1.heap.size ≤ bq) (br : Nat) (hbr : Var W br (.int .u64 xr) (.slice pr lr cr)) (hbrn : w1.heap.size ≤ br) (hcd : bq ≠ br), R 0 #[true, true, true, true, true, true, true, true, true, true, true, true, true, true, true] { tmps := #[.agg #[.int .u64 x, .slice p l c], .slice pv xs.length cv, .slice (some ⟨pb, 0, none⟩) (k + 1) cp, .pointer (some ⟨w.heap.size, 0, none⟩), undef, undef, .slice none 0 0, undef, .int .i64 (k : Int), .pointer (some ⟨bq, 0, none⟩), .pointer (some ⟨br, 0, none⟩), .bool true, .slice (some ⟨pb, 0, none⟩) (k + 1) cp, .int .i64 ((k : Int) + 1), .bool false, undef, undef, undef, undef, undef, undef, undef, undef, undef, undef, undef, .slice (some ⟨pb, 0, none⟩) (k + 1) cp, .int .i64 ((k : Int) + 1), .int .i64 (k : Int), .tuple #[.agg #[.int .u64 xq, .slice pq lq cq], .agg #[.int .u64 xr, .slice pr lr cr], .bool true], .agg #[.int .u64 x, .slice p l c], .slice (some ⟨pb, 0, none⟩) (k + 1) cp, .int .i64 (k : Int), .pointer (some ⟨pb, k * 2, none⟩), .agg #[.int .u64 px, .slice pp pl pc], .tuple #[.agg #[.int .u64 xq, .slice pq lq cq], .agg #[.int .u64 xr, .slice pr lr cr], .bool true], .agg #[.int .u64 xq, .slice pq lq cq], .agg #[.int .u64 xr, .slice pr lr cr], .bool true, undef, undef, undef, undef, undef, undef, undef, undef, undef, undef, undef, undef], defers := [] } W := by
   intro W acc xq pq lq cq xr pr lr cr hz hs bq hbq hbqn br hbr hbrn hcd
   rw [← hR]
   refine wpAnyIn_done (by kernel_rfl) ?_ _
   have hbw := hb0.trans (acc.mono hb0.size)
   have htabW := htab.below hbw
   have hpowW := hpow.below hbw
   have hownW := hown.below hbw
   have hzW := Nat.le_trans hB hbw.size
   clear q0 q1 acc u0 l0 dv
   go_wp2_with fail
   refine wpIn_wide (n := 5) |>.1 ?_
   refine region_ways (by kernel_rfl) fun R hR => ?_
   have H1111111 : ∀ (W : World)  (vo : Value) (t1 : ByteArray) (hv : Own W B .u8 5 vo (xs ++ codes t1)) (ht1 : t1.size = m) (ht2 : Digs t1) (ht3 : decTo t1 m = Q) (ht : Tab W) (hp : Pows W pb (k + 1)) (uu : Var W br (.int .u64 xr) (.slice pr lr cr)) (hm : IsNat W (.agg #[.int .u64 xr, .slice pr lr cr]) Rm) (hz : B ≤ W.heap.size) (kp : Keeps (.slice pv xs.length cv) vo w W) (bl : Below B w W), R 0 #[true, true, true, true, true, true, true] { tmps := #[.agg #[.int .u64 x, .slice p l c], vo, .slice (some ⟨pb, 0, none⟩) (k + 1) cp, .pointer (some ⟨w.heap.size, 0, none⟩), undef, undef, .slice none 0 0, undef, .int .i64 (k : Int), .pointer (some ⟨bq, 0, none⟩), .pointer (some ⟨br, 0, none⟩), .bool true, .slice (some ⟨pb, 0, none⟩) (k + 1) cp, .int .i64 ((k : Int) + 1), .bool false, undef, undef, undef, undef, undef, undef, undef, undef, undef, undef, undef, .slice (some ⟨pb, 0, none⟩) (k + 1) cp, .int .i64 ((k : Int) + 1), .int .i64 (k : Int), .tuple #[.agg #[.int .u64 xq, .slice pq lq cq], .agg #[.int .u64 xr, .slice pr lr cr], .bool true], .agg #[.int .u64 x, .slice p l c], .slice (some ⟨pb, 0, none⟩) (k + 1) cp, .int .i64 (k : Int), .pointer (some ⟨pb, k * 2, none⟩), .agg #[.int .u64 px, .slice pp pl pc], .tuple #[.agg #[.int .u64 xq, .slice pq lq cq], .agg #[.int .u64 xr, .slice pr lr cr], .bool true], .agg #[.int .u64 xq, .slice pq lq cq], .agg #[.int .u64 xr, .slice pr lr cr], .bool true, .agg #[.int .u64 xq, .slice pq lq cq], .slice pv xs.length cv, .slice (some ⟨pb, 0, none⟩) (k + 1) cp, .int .i64 (k : Int), .slice (some ⟨pb, 0, none⟩) k cp, vo, undef, undef, undef, undef, undef, undef], defers := [] } W := by
     intro W vo t1 hv ht1 ht2 ht3 ht hp uu hm hz kp bl
     rw [← hR]
     refine wpAnyIn_done (by kernel_rfl) ?_ _
     obtain ⟨po, co, hsh⟩ := hv.shape
     obtain ⟨x1, hx1⟩ : ∃ x1, (xs ++ codes t1).length = x1 := ⟨_, rfl⟩
     rw [hx1] at hsh
     subst hsh
     have s1 := ht1
     have d1 := ht2
     have e1 := ht3
     have hd := uu
     have hs2 := hm
     have ht2 := ht
     have hp2 := hp
     have hv2 := hv
     have hz2 := hz
     have kp2 := kp
     have bl2 := bl
     clear ht1 ht3 uu hm ht hp hv hz kp bl
     go_wp2_with fail
     refine wpIn_wide (n := 5) |>.1 ?_
     refine region_ways (by kernel_rfl) fun R hR => ?_
     have H1111111 : ∀ (W : World)  (vo : Value) (t2 : ByteArray) (hv : Own W B .u8 5 vo ((xs ++ codes t1) ++ codes t2)) (ht1 : t2.size = m) (ht2 : Digs t2) (ht3 : decTo t2 m = Rm) (hz : B ≤ W.heap.size) (kp : Keeps (.slice pv xs.length cv) vo w W) (bl : Below B w W), R 0 #[true, true, true, true, true, true, true] { tmps := #[.agg #[.int .u64 x, .slice p l c], .slice po x1 co, .slice (some ⟨pb, 0, none⟩) (k + 1) cp, .pointer (some ⟨w.heap.size, 0, none⟩), undef, undef, vo, undef, .int .i64 (k : Int), .pointer (some ⟨bq, 0, none⟩), .pointer (some ⟨br, 0, none⟩), .bool true, .slice (some ⟨pb, 0, none⟩) (k + 1) cp, .int .i64 ((k : Int) + 1), .bool false, undef, undef, undef, undef, undef, undef, undef, undef, undef, undef, undef, .slice (some ⟨pb, 0, none⟩) (k + 1) cp, .int .i64 ((k : Int) + 1), .int .i64 (k : Int), .tuple #[.agg #[.int .u64 xq, .slice pq lq cq], .agg #[.int .u64 xr, .slice pr lr cr], .bool true], .agg #[.int .u64 x, .slice p l c], .slice (some ⟨pb, 0, none⟩) (k + 1) cp, .int .i64 (k : Int), .pointer (some ⟨pb, k * 2, none⟩), .agg #[.int .u64 px, .slice pp pl pc], .tuple #[.agg #[.int .u64 xq, .slice pq lq cq], .agg #[.int .u64 xr, .slice pr lr cr], .bool true], .agg #[.int .u64 xq, .slice pq lq cq], .agg #[.int .u64 xr, .slice pr lr cr], .bool true, .agg #[.int .u64 xq, .slice pq lq cq], .slice pv xs.length cv, .slice (some ⟨pb, 0, none⟩) (k + 1) cp, .int .i64 (k : Int), .slice (some ⟨pb, 0, none⟩) k cp, .slice po x1 co, .agg #[.int .u64 xr, .slice pr lr cr], .slice po x1 co, .slice (some ⟨pb, 0, none⟩) (k + 1) cp, .int .i64 (k : Int), .slice (some ⟨pb, 0, none⟩) k cp, vo], defers := [] } W := by
       intro W vo t2 hv ht1 ht2 ht3 hz kp bl
       rw [← hR]
       refine wpAnyIn_done (by kernel_rfl) ?_ _
       obtain ⟨pw, cw, rfl⟩ := hv.shape
       go_wp2_with fail
       go_ret
       exact ⟨_, t1 ++ t2, rfl, codes_join hv, by rw [ByteArray.size_append, ht1, s1], d1.app ht2, digits_join s1 ht1 e1 ht3 HP.out Hsum.out, bl, kp⟩
     have H1111110 : ∀ (W : World)  (vo : Value) (t2 : ByteArray) (hv : Own W B .u8 5 vo ((xs ++ codes t1) ++ codes t2)) (ht1 : t2.size = m) (ht2 : Digs t2) (ht3 : decTo t2 m = Rm) (hz : B ≤ W.heap.size) (kp : Keeps (.slice pv xs.length cv) vo w W) (bl : Below B w W), R 1 #[true, true, true, true, true, true, false] { tmps := #[.agg #[.int .u64 x, .slice p l c], .slice po x1 co, .slice (some ⟨pb, 0, none⟩) (k + 1) cp, .pointer (some ⟨w.heap.size, 0, none⟩), undef, undef, .slice none 0 0, undef, .int .i64 (k : Int), .pointer (some ⟨bq, 0, none⟩), .pointer (some ⟨br, 0, none⟩), .bool true, .slice (some ⟨pb, 0, none⟩) (k + 1) cp, .int .i64 ((k : Int) + 1), .bool false, undef, undef, undef, undef, undef, undef, undef, undef, undef, undef, undef, .slice (some ⟨pb, 0, none⟩) (k + 1) cp, .int .i64 ((k : Int) + 1), .int .i64 (k : Int), .tuple #[.agg #[.int .u64 xq, .slice pq lq cq], .agg #[.int .u64 xr, .slice pr lr cr], .bool true], .agg #[.int .u64 x, .slice p l c], .slice (some ⟨pb, 0, none⟩) (k + 1) cp, .int .i64 (k : Int), .pointer (some ⟨pb, k * 2, none⟩), .agg #[.int .u64 px, .slice pp pl pc], .tuple #[.agg #[.int .u64 xq, .slice pq lq cq], .agg #[.int .u64 xr, .slice pr lr cr], .bool true], .agg #[.int .u64 xq, .slice pq lq cq], .agg #[.int .u64 xr, .slice pr lr cr], .bool true, .agg #[.int .u64 xq, .slice pq lq cq], .slice pv xs.length cv, .slice (some ⟨pb, 0, none⟩) (k + 1) cp, .int .i64 (k : Int), .slice (some ⟨pb, 0, none⟩) k cp, .slice po x1 co, .agg #[.int .u64 xr, .slice pr lr cr], .slice po x1 co, .slice (some ⟨pb, 0, none⟩) (k + 1) cp, .int .i64 (k : Int), .slice (some ⟨pb, 0, none⟩) k cp, vo], defers := [] } W := by
       intro W vo t2 hv ht1 ht2 ht3 hz kp bl
       rw [← hR]
       refine wpAnyIn_ready (rs := [6]) (by kernel_rfl) (by simp) ?_
       refine AllReadyIn.cons rfl (fun K hK => ?_) ?_
       · go_simp
         refine hK _ _ ?_
         rw [hR]; exact H1111111 W vo t2 hv ht1 ht2 ht3 hz kp bl
       exact AllReadyIn.nil
     have H1111100 : ∀ (W : World) (u : Var W br (.int .u64 xr) (.slice pr lr cr)) (hn : IsNat W (.agg #[.int .u64 xr, .slice pr lr cr]) Rm) (ht : Tab W) (hp : Pows W pb (k + 1)) (hv : Own W B .u8 5 (.slice po x1 co) (xs ++ codes t1)) (hz : B ≤ W.heap.size) (kp : Keeps (.slice pv xs.length cv) (.slice po x1 co) w W) (bl : Below B w W), R 2 #[true, true, true, true, true, false, false] { tmps := #[.agg #[.int .u64 x, .slice p l c], .slice po x1 co, .slice (some ⟨pb, 0, none⟩) (k + 1) cp, .pointer (some ⟨w.heap.size, 0, none⟩), undef, undef, .slice none 0 0, undef, .int .i64 (k : Int), .pointer (some ⟨bq, 0, none⟩), .pointer (some ⟨br, 0, none⟩), .bool true, .slice (some ⟨pb, 0, none⟩) (k + 1) cp, .int .i64 ((k : Int) + 1), .bool false, undef, undef, undef, undef, undef, undef, undef, undef, undef, undef, undef, .slice (some ⟨pb, 0, none⟩) (k + 1) cp, .int .i64 ((k : Int) + 1), .int .i64 (k : Int), .tuple #[.agg #[.int .u64 xq, .slice pq lq cq], .agg #[.int .u64 xr, .slice pr lr cr], .bool true], .agg #[.int .u64 x, .slice p l c], .slice (some ⟨pb, 0, none⟩) (k + 1) cp, .int .i64 (k : Int), .pointer (some ⟨pb, k * 2, none⟩), .agg #[.int .u64 px, .slice pp pl pc], .tuple #[.agg #[.int .u64 xq, .slice pq lq cq], .agg #[.int .u64 xr, .slice pr lr cr], .bool true], .agg #[.int .u64 xq, .slice pq lq cq], .agg #[.int .u64 xr, .slice pr lr cr], .bool true, .agg #[.int .u64 xq, .slice pq lq cq], .slice pv xs.length cv, .slice (some ⟨pb, 0, none⟩) (k + 1) cp, .int .i64 (k : Int), .slice (some ⟨pb, 0, none⟩) k cp, .slice po x1 co, .agg #[.int .u64 xr, .slice pr lr cr], .slice po x1 co, .slice (some ⟨pb, 0, none⟩) (k + 1) cp, .int .i64 (k : Int), .slice (some ⟨pb, 0, none⟩) k cp, undef], defers := [] } W := by
       intro W u hn ht hp hv hz kp bl
       rw [← hR]
       have c0 := u.c0
       have c1 := u.c1
       refine wpAnyIn_ready (rs := [5]) (by kernel_rfl) (by simp) ?_
       refine AllReadyIn.cons rfl (fun K hK => ?_) ?_
       · go_simp
         gi_wp2_with (refine ⟨trivial, ?_⟩; gi_at_call 33; refine (callsIn_wide.2 (ih cp pb _ Rm _ _ B W (by omega) ht (hp.less (by omega)) hn HRP.out HRK.out hz hv (by rw [List.length_append, codes_length, s1]; omega))).mono ?_; rintro e W2 ⟨vo, t2, rfl, ho2, ht1, ht2, ht3, hbl, hkp⟩; skip)
         rw [hR]; exact H1111110 W2 vo t2 ho2 ht1 ht2 ht3 (Nat.le_trans hz hbl.size) (kp.trans hkp) (bl.trans hbl)
       exact AllReadyIn.nil
     have H1111000 : ∀ (W : World) (u : Var W br (.int .u64 xr) (.slice pr lr cr)) (hn : IsNat W (.agg #[.int .u64 xr, .slice pr lr cr]) Rm) (ht : Tab W) (hp : Pows W pb (k + 1)) (hv : Own W B .u8 5 (.slice po x1 co) (xs ++ codes t1)) (hz : B ≤ W.heap.size) (kp : Keeps (.slice pv xs.length cv) (.slice po x1 co) w W) (bl : Below B w W), R 3 #[true, true, true, true, false, false, false] { tmps := #[.agg #[.int .u64 x, .slice p l c], .slice po x1 co, .slice (some ⟨pb, 0, none⟩) (k + 1) cp, .pointer (some ⟨w.heap.size, 0, none⟩), undef, undef, .slice none 0 0, undef, .int .i64 (k : Int), .pointer (some ⟨bq, 0, none⟩), .pointer (some ⟨br, 0, none⟩), .bool true, .slice (some ⟨pb, 0, none⟩) (k + 1) cp, .int .i64 ((k : Int) + 1), .bool false, undef, undef, undef, undef, undef, undef, undef, undef, undef, undef, undef, .slice (some ⟨pb, 0, none⟩) (k + 1) cp, .int .i64 ((k : Int) + 1), .int .i64 (k : Int), .tuple #[.agg #[.int .u64 xq, .slice pq lq cq], .agg #[.int .u64 xr, .slice pr lr cr], .bool true], .agg #[.int .u64 x, .slice p l c], .slice (some ⟨pb, 0, none⟩) (k + 1) cp, .int .i64 (k : Int), .pointer (some ⟨pb, k * 2, none⟩), .agg #[.int .u64 px, .slice pp pl pc], .tuple #[.agg #[.int .u64 xq, .slice pq lq cq], .agg #[.int .u64 xr, .slice pr lr cr], .bool true], .agg #[.int .u64 xq, .slice pq lq cq], .agg #[.int .u64 xr, .slice pr lr cr], .bool true, .agg #[.int .u64 xq, .slice pq lq cq], .slice pv xs.length cv, .slice (some ⟨pb, 0, none⟩) (k + 1) cp, .int .i64 (k : Int), .slice (some ⟨pb, 0, none⟩) k cp, .slice po x1 co, .agg #[.int .u64 xr, .slice pr lr cr], .slice po x1 co, .slice (some ⟨pb, 0, none⟩) (k + 1) cp, .int .i64 (k : Int), undef, undef], defers := [] } W := by
       intro W u hn ht hp hv hz kp bl
       rw [← hR]
       have c0 := u.c0
       have c1 := u.c1
       refine wpAnyIn_ready (rs := [4]) (by kernel_rfl) (by simp) ?_
       refine AllReadyIn.cons rfl (fun K hK => ?_) ?_
       · go_simp
         refine hK _ _ ?_
         rw [hR]; exact H1111100 W u hn ht hp hv hz kp bl
       exact AllReadyIn.nil
     have H1110000 : ∀ (W : World) (u : Var W br (.int .u64 xr) (.slice pr lr cr)) (hn : IsNat W (.agg #[.int .u64 xr, .slice pr lr cr]) Rm) (ht : Tab W) (hp : Pows W pb (k + 1)) (hv : Own W B .u8 5 (.slice po x1 co) (xs ++ codes t1)) (hz : B ≤ W.heap.size) (kp : Keeps (.slice pv xs.length cv) (.slice po x1 co) w W) (bl : Below B w W), R 4 #[true, true, true, false, false, false, false] { tmps := #[.agg #[.int .u64 x, .slice p l c], .slice po x1 co, .slice (some ⟨pb, 0, none⟩) (k + 1) cp, .pointer (some ⟨w.heap.size, 0, none⟩), undef, undef, .slice none 0 0, undef, .int .i64 (k : Int), .pointer (some ⟨bq, 0, none⟩), .pointer (some ⟨br, 0, none⟩), .bool true, .slice (some ⟨pb, 0, none⟩) (k + 1) cp, .int .i64 ((k : Int) + 1), .bool false, undef, undef, undef, undef, undef, undef, undef, undef, undef, undef, undef, .slice (some ⟨pb, 0, none⟩) (k + 1) cp, .int .i64 ((k : Int) + 1), .int .i64 (k : Int), .tuple #[.agg #[.int .u64 xq, .slice pq lq cq], .agg #[.int .u64 xr, .slice pr lr cr], .bool true], .agg #[.int .u64 x, .slice p l c], .slice (some ⟨pb, 0, none⟩) (k + 1) cp, .int .i64 (k : Int), .pointer (some ⟨pb, k * 2, none⟩), .agg #[.int .u64 px, .slice pp pl pc], .tuple #[.agg #[.int .u64 xq, .slice pq lq cq], .agg #[.int .u64 xr, .slice pr lr cr], .bool true], .agg #[.int .u64 xq, .slice pq lq cq], .agg #[.int .u64 xr, .slice pr lr cr], .bool true, .agg #[.int .u64 xq, .slice pq lq cq], .slice pv xs.length cv, .slice (some ⟨pb, 0, none⟩) (k + 1) cp, .int .i64 (k : Int), .slice (some ⟨pb, 0, none⟩) k cp, .slice po x1 co, .agg #[.int .u64 xr, .slice pr lr cr], .slice po x1 co, .slice (some ⟨pb, 0, none⟩) (k + 1) cp, undef, undef, undef], defers := [] } W := by
       intro W u hn ht hp hv hz kp bl
       rw [← hR]
       have c0 := u.c0
       have c1 := u.c1
       refine wpAnyIn_ready (rs := [3]) (by kernel_rfl) (by simp) ?_
       refine AllReadyIn.cons rfl (fun K hK => ?_) ?_
       · go_simp
         refine hK _ _ ?_
         rw [hR]; exact H1111000 W u hn ht hp hv hz kp bl
       exact AllReadyIn.nil
     have H1101000 : ∀ (W : World) (u : Var W br (.int .u64 xr) (.slice pr lr cr)) (hn : IsNat W (.agg #[.int .u64 xr, .slice pr lr cr]) Rm) (ht : Tab W) (hp : Pows W pb (k + 1)) (hv : Own W B .u8 5 (.slice po x1 co) (xs ++ codes t1)) (hz : B ≤ W.heap.size) (kp : Keeps (.slice pv xs.length cv) (.slice po x1 co) w W) (bl : Below B w W), R 4 #[true, true, false, true, false, false, false] { tmps := #[.agg #[.int .u64 x, .slice p l c], .slice po x1 co, .slice (some ⟨pb, 0, none⟩) (k + 1) cp, .pointer (some ⟨w.heap.size, 0, none⟩), undef, undef, .slice none 0 0, undef, .int .i64 (k : Int), .pointer (some ⟨bq, 0, none⟩), .pointer (some ⟨br, 0, none⟩), .bool true, .slice (some ⟨pb, 0, none⟩) (k + 1) cp, .int .i64 ((k : Int) + 1), .bool false, undef, undef, undef, undef, undef, undef, undef, undef, undef, undef, undef, .slice (some ⟨pb, 0, none⟩) (k + 1) cp, .int .i64 ((k : Int) + 1), .int .i64 (k : Int), .tuple #[.agg #[.int .u64 xq, .slice pq lq cq], .agg #[.int .u64 xr, .slice pr lr cr], .bool true], .agg #[.int .u64 x, .slice p l c], .slice (some ⟨pb, 0, none⟩) (k + 1) cp, .int .i64 (k : Int), .pointer (some ⟨pb, k * 2, none⟩), .agg #[.int .u64 px, .slice pp pl pc], .tuple #[.agg #[.int .u64 xq, .slice pq lq cq], .agg #[.int .u64 xr, .slice pr lr cr], .bool true], .agg #[.int .u64 xq, .slice pq lq cq], .agg #[.int .u64 xr, .slice pr lr cr], .bool true, .agg #[.int .u64 xq, .slice pq lq cq], .slice pv xs.length cv, .slice (some ⟨pb, 0, none⟩) (k + 1) cp, .int .i64 (k : Int), .slice (some ⟨pb, 0, none⟩) k cp, .slice po x1 co, .agg #[.int .u64 xr, .slice pr lr cr], .slice po x1 co, undef, .int .i64 (k : Int), undef, undef], defers := [] } W := by
       intro W u hn ht hp hv hz kp bl
       rw [← hR]
       have c0 := u.c0
       have c1 := u.c1
       refine wpAnyIn_ready (rs := [2]) (by kernel_rfl) (by simp) ?_
       refine AllReadyIn.cons rfl (fun K hK => ?_) ?_
       · go_simp
         refine hK _ _ ?_
         rw [hR]; exact H1111000 W u hn ht hp hv hz kp bl
       exact AllReadyIn.nil
     have H1100000 : ∀ (W : World) (u : Var W br (.int .u64 xr) (.slice pr lr cr)) (hn : IsNat W (.agg #[.int .u64 xr, .slice pr lr cr]) Rm) (ht : Tab W) (hp : Pows W pb (k + 1)) (hv : Own W B .u8 5 (.slice po x1 co) (xs ++ codes t1)) (hz : B ≤ W.heap.size) (kp : Keeps (.slice pv xs.length cv) (.slice po x1 co) w W) (bl : Below B w W), R 5 #[true, true, false, false, false, false, false] { tmps := #[.agg #[.int .u64 x, .slice p l c], .slice po x1 co, .slice (some ⟨pb, 0, none⟩) (k + 1) cp, .pointer (some ⟨w.heap.size, 0, none⟩), undef, undef, .slice none 0 0, undef, .int .i64 (k : Int), .pointer (some ⟨bq, 0, none⟩), .pointer (some ⟨br, 0, none⟩), .bool true, .slice (some ⟨pb, 0, none⟩) (k + 1) cp, .int .i64 ((k : Int) + 1), .bool false, undef, undef, undef, undef, undef, undef, undef, undef, undef, undef, undef, .slice (some ⟨pb, 0, none⟩) (k + 1) cp, .int .i64 ((k : Int) + 1), .int .i64 (k : Int), .tuple #[.agg #[.int .u64 xq, .slice pq lq cq], .agg #[.int .u64 xr, .slice pr lr cr], .bool true], .agg #[.int .u64 x, .slice p l c], .slice (some ⟨pb, 0, none⟩) (k + 1) cp, .int .i64 (k : Int), .pointer (some ⟨pb, k * 2, none⟩), .agg #[.int .u64 px, .slice pp pl pc], .tuple #[.agg #[.int .u64 xq, .slice pq lq cq], .agg #[.int .u64 xr, .slice pr lr cr], .bool true], .agg #[.int .u64 xq, .slice pq lq cq], .agg #[.int .u64 xr, .slice pr lr cr], .bool true, .agg #[.int .u64 xq, .slice pq lq cq], .slice pv xs.length cv, .slice (some ⟨pb, 0, none⟩) (k + 1) cp, .int .i64 (k : Int), .slice (some ⟨pb, 0, none⟩) k cp, .slice po x1 co, .agg #[.int .u64 xr, .slice pr lr cr], .slice po x1 co, undef, undef, undef, undef], defers := [] } W := by
       intro W u hn ht hp hv hz kp bl
       rw [← hR]
       have c0 := u.c0
       have c1 := u.c1
       refine wpAnyIn_ready (rs := [2, 3]) (by kernel_rfl) (by simp) ?_
       refine AllReadyIn.cons rfl (fun K hK => ?_) ?_
       · go_simp
         refine hK _ _ ?_
         rw [hR]; exact H1110000 W u hn ht hp hv hz kp bl
       refine AllReadyIn.cons rfl (fun K hK => ?_) ?_
       · go_simp
         refine hK _ _ ?_
         rw [hR]; exact H1101000 W u hn ht hp hv hz kp bl
       exact AllReadyIn.nil
     have H1011100 : ∀ (W : World) (u : Var W br (.int .u64 xr) (.slice pr lr cr)) (hn : IsNat W (.agg #[.int .u64 xr, .slice pr lr cr]) Rm) (ht : Tab W) (hp : Pows W pb (k + 1)) (hv : Own W B .u8 5 (.slice po x1 co) (xs ++ codes t1)) (hz : B ≤ W.heap.size) (kp : Keeps (.slice pv xs.length cv) (.slice po x1 co) w W) (bl : Below B w W), R 3 #[true, false, true, true, true, false, false] { tmps := #[.agg #[.int .u64 x, .slice p l c], .slice po x1 co, .slice (some ⟨pb, 0, none⟩) (k + 1) cp, .pointer (some ⟨w.heap.size, 0, none⟩), undef, undef, .slice none 0 0, undef, .int .i64 (k : Int), .pointer (some ⟨bq, 0, none⟩), .pointer (some ⟨br, 0, none⟩), .bool true, .slice (some ⟨pb, 0, none⟩) (k + 1) cp, .int .i64 ((k : Int) + 1), .bool false, undef, undef, undef, undef, undef, undef, undef, undef, undef, undef, undef, .slice (some ⟨pb, 0, none⟩) (k + 1) cp, .int .i64 ((k : Int) + 1), .int .i64 (k : Int), .tuple #[.agg #[.int .u64 xq, .slice pq lq cq], .agg #[.int .u64 xr, .slice pr lr cr], .bool true], .agg #[.int .u64 x, .slice p l c], .slice (some ⟨pb, 0, none⟩) (k + 1) cp, .int .i64 (k : Int), .pointer (some ⟨pb, k * 2, none⟩), .agg #[.int .u64 px, .slice pp pl pc], .tuple #[.agg #[.int .u64 xq, .slice pq lq cq], .agg #[.int .u64 xr, .slice pr lr cr], .bool true], .agg #[.int .u64 xq, .slice pq lq cq], .agg #[.int .u64 xr, .slice pr lr cr], .bool true, .agg #[.int .u64 xq, .slice pq lq cq], .slice pv xs.length cv, .slice (some ⟨pb, 0, none⟩) (k + 1) cp, .int .i64 (k : Int), .slice (some ⟨pb, 0, none⟩) k cp, .slice po x1 co, .agg #[.int .u64 xr, .slice pr lr cr], undef, .slice (some ⟨pb, 0, none⟩) (k + 1) cp, .int .i64 (k : Int), .slice (some ⟨pb, 0, none⟩) k cp, undef], defers := [] } W := by
       intro W u hn ht hp hv hz kp bl
       rw [← hR]
       have c0 := u.c0
       have c1 := u.c1
       refine wpAnyIn_ready (rs := [1]) (by kernel_rfl) (by simp) ?_
       refine AllReadyIn.cons rfl (fun K hK => ?_) ?_
       · go_simp
         refine hK _ _ ?_
         rw [hR]; exact H1111100 W u hn ht hp hv hz kp bl
       exact AllReadyIn.nil
     have H1011000 : ∀ (W : World) (u : Var W br (.int .u64 xr) (.slice pr lr cr)) (hn : IsNat W (.agg #[.int .u64 xr, .slice pr lr cr]) Rm) (ht : Tab W) (hp : Pows W pb (k + 1)) (hv : Own W B .u8 5 (.slice po x1 co) (xs ++ codes t1)) (hz : B ≤ W.heap.size) (kp : Keeps (.slice pv xs.length cv) (.slice po x1 co) w W) (bl : Below B w W), R 4 #[true, false, true, true, false, false, false] { tmps := #[.agg #[.int .u64 x, .slice p l c], .slice po x1 co, .slice (some ⟨pb, 0, none⟩) (k + 1) cp, .pointer (some ⟨w.heap.size, 0, none⟩), undef, undef, .slice none 0 0, undef, .int .i64 (k : Int), .pointer (some ⟨bq, 0, none⟩), .pointer (some ⟨br, 0, none⟩), .bool true, .slice (some ⟨pb, 0, none⟩) (k + 1) cp, .int .i64 ((k : Int) + 1), .bool false, undef, undef, undef, undef, undef, undef, undef, undef, undef, undef, undef, .slice (some ⟨pb, 0, none⟩) (k + 1) cp, .int .i64 ((k : Int) + 1), .int .i64 (k : Int), .tuple #[.agg #[.int .u64 xq, .slice pq lq cq], .agg #[.int .u64 xr, .slice pr lr cr], .bool true], .agg #[.int .u64 x, .slice p l c], .slice (some ⟨pb, 0, none⟩) (k + 1) cp, .int .i64 (k : Int), .pointer (some ⟨pb, k * 2, none⟩), .agg #[.int .u64 px, .slice pp pl pc], .tuple #[.agg #[.int .u64 xq, .slice pq lq cq], .agg #[.int .u64 xr, .slice pr lr cr], .bool true], .agg #[.int .u64 xq, .slice pq lq cq], .agg #[.int .u64 xr, .slice pr lr cr], .bool true, .agg #[.int .u64 xq, .slice pq lq cq], .slice pv xs.length cv, .slice (some ⟨pb, 0, none⟩) (k + 1) cp, .int .i64 (k : Int), .slice (some ⟨pb, 0, none⟩) k cp, .slice po x1 co, .agg #[.int .u64 xr, .slice pr lr cr], undef, .slice (some ⟨pb, 0, none⟩) (k + 1) cp, .int .i64 (k : Int), undef, undef], defers := [] } W := by
       intro W u hn ht hp hv hz kp bl
       rw [← hR]
       have c0 := u.c0
       have c1 := u.c1
       refine wpAnyIn_ready (rs := [1, 4]) (by kernel_rfl) (by simp) ?_
       refine AllReadyIn.cons rfl (fun K hK => ?_) ?_
       · go_simp
         refine hK _ _ ?_
         rw [hR]; exact H1111000 W u hn ht hp hv hz kp bl
       refine AllReadyIn.cons rfl (fun K hK => ?_) ?_
       · go_simp
         refine hK _ _ ?_
         rw [hR]; exact H1011100 W u hn ht hp hv hz kp bl
       exact AllReadyIn.nil
     have H1010000 : ∀ (W : World) (u : Var W br (.int .u64 xr) (.slice pr lr cr)) (hn : IsNat W (.agg #[.int .u64 xr, .slice pr lr cr]) Rm) (ht : Tab W) (hp : Pows W pb (k + 1)) (hv : Own W B .u8 5 (.slice po x1 co) (xs ++ codes t1)) (hz : B ≤ W.heap.size) (kp : Keeps (.slice pv xs.length cv) (.slice po x1 co) w W) (bl : Below B w W), R 5 #[true, false, true, false, false, false, false] { tmps := #[.agg #[.int .u64 x, .slice p l c], .slice po x1 co, .slice (some ⟨pb, 0, none⟩) (k + 1) cp, .pointer (some ⟨w.heap.size, 0, none⟩), undef, undef, .slice none 0 0, undef, .int .i64 (k : Int), .pointer (some ⟨bq, 0, none⟩), .pointer (some ⟨br, 0, none⟩), .bool true, .slice (some ⟨pb, 0, none⟩) (k + 1) cp, .int .i64 ((k : Int) + 1), .bool false, undef, undef, undef, undef, undef, undef, undef, undef, undef, undef, undef, .slice (some ⟨pb, 0, none⟩) (k + 1) cp, .int .i64 ((k : Int) + 1), .int .i64 (k : Int), .tuple #[.agg #[.int .u64 xq, .slice pq lq cq], .agg #[.int .u64 xr, .slice pr lr cr], .bool true], .agg #[.int .u64 x, .slice p l c], .slice (some ⟨pb, 0, none⟩) (k + 1) cp, .int .i64 (k : Int), .pointer (some ⟨pb, k * 2, none⟩), .agg #[.int .u64 px, .slice pp pl pc], .tuple #[.agg #[.int .u64 xq, .slice pq lq cq], .agg #[.int .u64 xr, .slice pr lr cr], .bool true], .agg #[.int .u64 xq, .slice pq lq cq], .agg #[.int .u64 xr, .slice pr lr cr], .bool true, .agg #[.int .u64 xq, .slice pq lq cq], .slice pv xs.length cv, .slice (some ⟨pb, 0, none⟩) (k + 1) cp, .int .i64 (k : Int), .slice (some ⟨pb, 0, none⟩) k cp, .slice po x1 co, .agg #[.int .u64 xr, .slice pr lr cr], undef, .slice (some ⟨pb, 0, none⟩) (k + 1) cp, undef, undef, undef], defers := [] } W := by
       intro W u hn ht hp hv hz kp bl
       rw [← hR]
       have c0 := u.c0
       have c1 := u.c1
       refine wpAnyIn_ready (rs := [1, 3]) (by kernel_rfl) (by simp) ?_
       refine AllReadyIn.cons rfl (fun K hK => ?_) ?_
       · go_simp
         refine hK _ _ ?_
         rw [hR]; exact H1110000 W u hn ht hp hv hz kp bl
       refine AllReadyIn.cons rfl (fun K hK => ?_) ?_
       · go_simp
         refine hK _ _ ?_
         rw [hR]; exact H1011000 W u hn ht hp hv hz kp bl
       exact AllReadyIn.nil
     have H1001000 : ∀ (W : World) (u : Var W br (.int .u64 xr) (.slice pr lr cr)) (hn : IsNat W (.agg #[.int .u64 xr, .slice pr lr cr]) Rm) (ht : Tab W) (hp : Pows W pb (k + 1)) (hv : Own W B .u8 5 (.slice po x1 co) (xs ++ codes t1)) (hz : B ≤ W.heap.size) (kp : Keeps (.slice pv xs.length cv) (.slice po x1 co) w W) (bl : Below B w W), R 5 #[true, false, false, true, false, false, false] { tmps := #[.agg #[.int .u64 x, .slice p l c], .slice po x1 co, .slice (some ⟨pb, 0, none⟩) (k + 1) cp, .pointer (some ⟨w.heap.size, 0, none⟩), undef, undef, .slice none 0 0, undef, .int .i64 (k : Int), .pointer (some ⟨bq, 0, none⟩), .pointer (some ⟨br, 0, none⟩), .bool true, .slice (some ⟨pb, 0, none⟩) (k + 1) cp, .int .i64 ((k : Int) + 1), .bool false, undef, undef, undef, undef, undef, undef, undef, undef, undef, undef, undef, .slice (some ⟨pb, 0, none⟩) (k + 1) cp, .int .i64 ((k : Int) + 1), .int .i64 (k : Int), .tuple #[.agg #[.int .u64 xq, .slice pq lq cq], .agg #[.int .u64 xr, .slice pr lr cr], .bool true], .agg #[.int .u64 x, .slice p l c], .slice (some ⟨pb, 0, none⟩) (k + 1) cp, .int .i64 (k : Int), .pointer (some ⟨pb, k * 2, none⟩), .agg #[.int .u64 px, .slice pp pl pc], .tuple #[.agg #[.int .u64 xq, .slice pq lq cq], .agg #[.int .u64 xr, .slice pr lr cr], .bool true], .agg #[.int .u64 xq, .slice pq lq cq], .agg #[.int .u64 xr, .slice pr lr cr], .bool true, .agg #[.int .u64 xq, .slice pq lq cq], .slice pv xs.length cv, .slice (some ⟨pb, 0, none⟩) (k + 1) cp, .int .i64 (k : Int), .slice (some ⟨pb, 0, none⟩) k cp, .slice po x1 co, .agg #[.int .u64 xr, .slice pr lr cr], undef, undef, .int .i64 (k : Int), undef, undef], defers := [] } W := by
       intro W u hn ht hp hv hz kp bl
       rw [← hR]
       have c0 := u.c0
       have c1 := u.c1
       refine wpAnyIn_ready (rs := [1, 2]) (by kernel_rfl) (by simp) ?_
       refine AllReadyIn.cons rfl (fun K hK => ?_) ?_
       · go_simp
         refine hK _ _ ?_
         rw [hR]; exact H1101000 W u hn ht hp hv hz kp bl
       refine AllReadyIn.cons rfl (fun K hK => ?_) ?_
       · go_simp
         refine hK _ _ ?_
         rw [hR]; exact H1011000 W u hn ht hp hv hz kp bl
       exact AllReadyIn.nil
     have H1000000 : ∀ (W : World) (u : Var W br (.int .u64 xr) (.slice pr lr cr)) (hn : IsNat W (.agg #[.int .u64 xr, .slice pr lr cr]) Rm) (ht : Tab W) (hp : Pows W pb (k + 1)) (hv : Own W B .u8 5 (.slice po x1 co) (xs ++ codes t1)) (hz : B ≤ W.heap.size) (kp : Keeps (.slice pv xs.length cv) (.slice po x1 co) w W) (bl : Below B w W), R 6 #[true, false, false, false, false, false, false] { tmps := #[.agg #[.int .u64 x, .slice p l c], .slice po x1 co, .slice (some ⟨pb, 0, none⟩) (k + 1) cp, .pointer (some ⟨w.heap.size, 0, none⟩), undef, undef, .slice none 0 0, undef, .int .i64 (k : Int), .pointer (some ⟨bq, 0, none⟩), .pointer (some ⟨br, 0, none⟩), .bool true, .slice (some ⟨pb, 0, none⟩) (k + 1) cp, .int .i64 ((k : Int) + 1), .bool false, undef, undef, undef, undef, undef, undef, undef, undef, undef, undef, undef, .slice (some ⟨pb, 0, none⟩) (k + 1) cp, .int .i64 ((k : Int) + 1), .int .i64 (k : Int), .tuple #[.agg #[.int .u64 xq, .slice pq lq cq], .agg #[.int .u64 xr, .slice pr lr cr], .bool true], .agg #[.int .u64 x, .slice p l c], .slice (some ⟨pb, 0, none⟩) (k + 1) cp, .int .i64 (k : Int), .pointer (some ⟨pb, k * 2, none⟩), .agg #[.int .u64 px, .slice pp pl pc], .tuple #[.agg #[.int .u64 xq, .slice pq lq cq], .agg #[.int .u64 xr, .slice pr lr cr], .bool true], .agg #[.int .u64 xq, .slice pq lq cq], .agg #[.int .u64 xr, .slice pr lr cr], .bool true, .agg #[.int .u64 xq, .slice pq lq cq], .slice pv xs.length cv, .slice (some ⟨pb, 0, none⟩) (k + 1) cp, .int .i64 (k : Int), .slice (some ⟨pb, 0, none⟩) k cp, .slice po x1 co, .agg #[.int .u64 xr, .slice pr lr cr], undef, undef, undef, undef, undef], defers := [] } W := by
       intro W u hn ht hp hv hz kp bl
       rw [← hR]
       have c0 := u.c0
       have c1 := u.c1
       refine wpAnyIn_ready (rs := [1, 2, 3]) (by kernel_rfl) (by simp) ?_
       refine AllReadyIn.cons rfl (fun K hK => ?_) ?_
       · go_simp
         refine hK _ _ ?_
         rw [hR]; exact H1100000 W u hn ht hp hv hz kp bl
       refine AllReadyIn.cons rfl (fun K hK => ?_) ?_
       · go_simp
         refine hK _ _ ?_
         rw [hR]; exact H1010000 W u hn ht hp hv hz kp bl
       refine AllReadyIn.cons rfl (fun K hK => ?_) ?_
       · go_simp
         refine hK _ _ ?_
         rw [hR]; exact H1001000 W u hn ht hp hv hz kp bl
       exact AllReadyIn.nil
     have H0111100 : ∀ (W : World) (u : Var W br (.int .u64 xr) (.slice pr lr cr)) (hn : IsNat W (.agg #[.int .u64 xr, .slice pr lr cr]) Rm) (ht : Tab W) (hp : Pows W pb (k + 1)) (hv : Own W B .u8 5 (.slice po x1 co) (xs ++ codes t1)) (hz : B ≤ W.heap.size) (kp : Keeps (.slice pv xs.length cv) (.slice po x1 co) w W) (bl : Below B w W), R 3 #[false, true, true, true, true, false, false] { tmps := #[.agg #[.int .u64 x, .slice p l c], .slice po x1 co, .slice (some ⟨pb, 0, none⟩) (k + 1) cp, .pointer (some ⟨w.heap.size, 0, none⟩), undef, undef, .slice none 0 0, undef, .int .i64 (k : Int), .pointer (some ⟨bq, 0, none⟩), .pointer (some ⟨br, 0, none⟩), .bool true, .slice (some ⟨pb, 0, none⟩) (k + 1) cp, .int .i64 ((k : Int) + 1), .bool false, undef, undef, undef, undef, undef, undef, undef, undef, undef, undef, undef, .slice (some ⟨pb, 0, none⟩) (k + 1) cp, .int .i64 ((k : Int) + 1), .int .i64 (k : Int), .tuple #[.agg #[.int .u64 xq, .slice pq lq cq], .agg #[.int .u64 xr, .slice pr lr cr], .bool true], .agg #[.int .u64 x, .slice p l c], .slice (some ⟨pb, 0, none⟩) (k + 1) cp, .int .i64 (k : Int), .pointer (some ⟨pb, k * 2, none⟩), .agg #[.int .u64 px, .slice pp pl pc], .tuple #[.agg #[.int .u64 xq, .slice pq lq cq], .agg #[.int .u64 xr, .slice pr lr cr], .bool true], .agg #[.int .u64 xq, .slice pq lq cq], .agg #[.int .u64 xr, .slice pr lr cr], .bool true, .agg #[.int .u64 xq, .slice pq lq cq], .slice pv xs.length cv, .slice (some ⟨pb, 0, none⟩) (k + 1) cp, .int .i64 (k : Int), .slice (some ⟨pb, 0, none⟩) k cp, .slice po x1 co, undef, .slice po x1 co, .slice (some ⟨pb, 0, none⟩) (k + 1) cp, .int .i64 (k : Int), .slice (some ⟨pb, 0, none⟩) k cp, undef], defers := [] } W := by
       intro W u hn ht hp hv hz kp bl
       rw [← hR]
       have c0 := u.c0
       have c1 := u.c1
       refine wpAnyIn_ready (rs := [0]) (by kernel_rfl) (by simp) ?_
       refine AllReadyIn.cons rfl (fun K hK => ?_) ?_
       · go_simp
         refine hK _ _ ?_
         rw [hR]; exact H1111100 W u hn ht hp hv hz kp bl
       exact AllReadyIn.nil
     have H0111000 : ∀ (W : World) (u : Var W br (.int .u64 xr) (.slice pr lr cr)) (hn : IsNat W (.agg #[.int .u64 xr, .slice pr lr cr]) Rm) (ht : Tab W) (hp : Pows W pb (k + 1)) (hv : Own W B .u8 5 (.slice po x1 co) (xs ++ codes t1)) (hz : B ≤ W.heap.size) (kp : Keeps (.slice pv xs.length cv) (.slice po x1 co) w W) (bl : Below B w W), R 4 #[false, true, true, true, false, false, false] { tmps := #[.agg #[.int .u64 x, .slice p l c], .slice po x1 co, .slice (some ⟨pb, 0, none⟩) (k + 1) cp, .pointer (some ⟨w.heap.size, 0, none⟩), undef, undef, .slice none 0 0, undef, .int .i64 (k : Int), .pointer (some ⟨bq, 0, none⟩), .pointer (some ⟨br, 0, none⟩), .bool true, .slice (some ⟨pb, 0, none⟩) (k + 1) cp, .int .i64 ((k : Int) + 1), .bool false, undef, undef, undef, undef, undef, undef, undef, undef, undef, undef, undef, .slice (some ⟨pb, 0, none⟩) (k + 1) cp, .int .i64 ((k : Int) + 1), .int .i64 (k : Int), .tuple #[.agg #[.int .u64 xq, .slice pq lq cq], .agg #[.int .u64 xr, .slice pr lr cr], .bool true], .agg #[.int .u64 x, .slice p l c], .slice (some ⟨pb, 0, none⟩) (k + 1) cp, .int .i64 (k : Int), .pointer (some ⟨pb, k * 2, none⟩), .agg #[.int .u64 px, .slice pp pl pc], .tuple #[.agg #[.int .u64 xq, .slice pq lq cq], .agg #[.int .u64 xr, .slice pr lr cr], .bool true], .agg #[.int .u64 xq, .slice pq lq cq], .agg #[.int .u64 xr, .slice pr lr cr], .bool true, .agg #[.int .u64 xq, .slice pq lq cq], .slice pv xs.length cv, .slice (some ⟨pb, 0, none⟩) (k + 1) cp, .int .i64 (k : Int), .slice (some ⟨pb, 0, none⟩) k cp, .slice po x1 co, undef, .slice po x1 co, .slice (some ⟨pb, 0, none⟩) (k + 1) cp, .int .i64 (k : Int), undef, undef], defers := [] } W := by
       intro W u hn ht hp hv hz kp bl
       rw [← hR]
       have c0 := u.c0
       have c1 := u.c1
       refine wpAnyIn_ready (rs := [0, 4]) (by kernel_rfl) (by simp) ?_
       refine AllReadyIn.cons rfl (fun K hK => ?_) ?_
       · go_simp
         refine hK _ _ ?_
         rw [hR]; exact H1111000 W u hn ht hp hv hz kp bl
       refine AllReadyIn.cons rfl (fun K hK => ?_) ?_
       · go_simp
         refine hK _ _ ?_
         rw [hR]; exact H0111100 W u hn ht hp hv hz kp bl
       exact AllReadyIn.nil
     have H0110000 : ∀ (W : World) (u : Var W br (.int .u64 xr) (.slice pr lr cr)) (hn : IsNat W (.agg #[.int .u64 xr, .slice pr lr cr]) Rm) (ht : Tab W) (hp : Pows W pb (k + 1)) (hv : Own W B .u8 5 (.slice po x1 co) (xs ++ codes t1)) (hz : B ≤ W.heap.size) (kp : Keeps (.slice pv xs.length cv) (.slice po x1 co) w W) (bl : Below B w W), R 5 #[false, true, true, false, false, false, false] { tmps := #[.agg #[.int .u64 x, .slice p l c], .slice po x1 co, .slice (some ⟨pb, 0, none⟩) (k + 1) cp, .pointer (some ⟨w.heap.size, 0, none⟩), undef, undef, .slice none 0 0, undef, .int .i64 (k : Int), .pointer (some ⟨bq, 0, none⟩), .pointer (some ⟨br, 0, none⟩), .bool true, .slice (some ⟨pb, 0, none⟩) (k + 1) cp, .int .i64 ((k : Int) + 1), .bool false, undef, undef, undef, undef, undef, undef, undef, undef, undef, undef, undef, .slice (some ⟨pb, 0, none⟩) (k + 1) cp, .int .i64 ((k : Int) + 1), .int .i64 (k : Int), .tuple #[.agg #[.int .u64 xq, .slice pq lq cq], .agg #[.int .u64 xr, .slice pr lr cr], .bool true], .agg #[.int .u64 x, .slice p l c], .slice (some ⟨pb, 0, none⟩) (k + 1) cp, .int .i64 (k : Int), .pointer (some ⟨pb, k * 2, none⟩), .agg #[.int .u64 px, .slice pp pl pc], .tuple #[.agg #[.int .u64 xq, .slice pq lq cq], .agg #[.int .u64 xr, .slice pr lr cr], .bool true], .agg #[.int .u64 xq, .slice pq lq cq], .agg #[.int .u64 xr, .slice pr lr cr], .bool true, .agg #[.int .u64 xq, .slice pq lq cq], .slice pv xs.length cv, .slice (some ⟨pb, 0, none⟩) (k + 1) cp, .int .i64 (k : Int), .slice (some ⟨pb, 0, none⟩) k cp, .slice po x1 co, undef, .slice po x1 co, .slice (some ⟨pb, 0, none⟩) (k + 1) cp, undef, undef, undef], defers := [] } W := by
       intro W u hn ht hp hv hz kp bl
       rw [← hR]
       have c0 := u.c0
       have c1 := u.c1
       refine wpAnyIn_ready (rs := [0, 3]) (by kernel_rfl) (by simp) ?_
       refine AllReadyIn.cons rfl (fun K hK => ?_) ?_
       · go_simp
         refine hK _ _ ?_
         rw [hR]; exact H1110000 W u hn ht hp hv hz kp bl
       refine AllReadyIn.cons rfl (fun K hK => ?_) ?_
       · go_simp
         refine hK _ _ ?_
         rw [hR]; exact H0111000 W u hn ht hp hv hz kp bl
       exact AllReadyIn.nil
     have H0101000 : ∀ (W : World) (u : Var W br (.int .u64 xr) (.slice pr lr cr)) (hn : IsNat W (.agg #[.int .u64 xr, .slice pr lr cr]) Rm) (ht : Tab W) (hp : Pows W pb (k + 1)) (hv : Own W B .u8 5 (.slice po x1 co) (xs ++ codes t1)) (hz : B ≤ W.heap.size) (kp : Keeps (.slice pv xs.length cv) (.slice po x1 co) w W) (bl : Below B w W), R 5 #[false, true, false, true, false, false, false] { tmps := #[.agg #[.int .u64 x, .slice p l c], .slice po x1 co, .slice (some ⟨pb, 0, none⟩) (k + 1) cp, .pointer (some ⟨w.heap.size, 0, none⟩), undef, undef, .slice none 0 0, undef, .int .i64 (k : Int), .pointer (some ⟨bq, 0, none⟩), .pointer (some ⟨br, 0, none⟩), .bool true, .slice (some ⟨pb, 0, none⟩) (k + 1) cp, .int .i64 ((k : Int) + 1), .bool false, undef, undef, undef, undef, undef, undef, undef, undef, undef, undef, undef, .slice (some ⟨pb, 0, none⟩) (k + 1) cp, .int .i64 ((k : Int) + 1), .int .i64 (k : Int), .tuple #[.agg #[.int .u64 xq, .slice pq lq cq], .agg #[.int .u64 xr, .slice pr lr cr], .bool true], .agg #[.int .u64 x, .slice p l c], .slice (some ⟨pb, 0, none⟩) (k + 1) cp, .int .i64 (k : Int), .pointer (some ⟨pb, k * 2, none⟩), .agg #[.int .u64 px, .slice pp pl pc], .tuple #[.agg #[.int .u64 xq, .slice pq lq cq], .agg #[.int .u64 xr, .slice pr lr cr], .bool true], .agg #[.int .u64 xq, .slice pq lq cq], .agg #[.int .u64 xr, .slice pr lr cr], .bool true, .agg #[.int .u64 xq, .slice pq lq cq], .slice pv xs.length cv, .slice (some ⟨pb, 0, none⟩) (k + 1) cp, .int .i64 (k : Int), .slice (some ⟨pb, 0, none⟩) k cp, .slice po x1 co, undef, .slice po x1 co, undef, .int .i64 (k : Int), undef, undef], defers := [] } W := by
       intro W u hn ht hp hv hz kp bl
       rw [← hR]
       have c0 := u.c0
       have c1 := u.c1
       refine wpAnyIn_ready (rs := [0, 2]) (by kernel_rfl) (by simp) ?_
       refine AllReadyIn.cons rfl (fun K hK => ?_) ?_
       · go_simp
         refine hK _ _ ?_
         rw [hR]; exact H1101000 W u hn ht hp hv hz kp bl
       refine AllReadyIn.cons rfl (fun K hK => ?_) ?_
       · go_simp
         refine hK _ _ ?_
         rw [hR]; exact H0111000 W u hn ht hp hv hz kp bl
       exact AllReadyIn.nil
     have H0100000 : ∀ (W : World) (u : Var W br (.int .u64 xr) (.slice pr lr cr)) (hn : IsNat W (.agg #[.int .u64 xr, .slice pr lr cr]) Rm) (ht : Tab W) (hp : Pows W pb (k + 1)) (hv : Own W B .u8 5 (.slice po x1 co) (xs ++ codes t1)) (hz : B ≤ W.heap.size) (kp : Keeps (.slice pv xs.length cv) (.slice po x1 co) w W) (bl : Below B w W), R 6 #[false, true, false, false, false, false, false] { tmps := #[.agg #[.int .u64 x, .slice p l c], .slice po x1 co, .slice (some ⟨pb, 0, none⟩) (k + 1) cp, .pointer (some ⟨w.heap.size, 0, none⟩), undef, undef, .slice none 0 0, undef, .int .i64 (k : Int), .pointer (some ⟨bq, 0, none⟩), .pointer (some ⟨br, 0, none⟩), .bool true, .slice (some ⟨pb, 0, none⟩) (k + 1) cp, .int .i64 ((k : Int) + 1), .bool false, undef, undef, undef, undef, undef, undef, undef, undef, undef, undef, undef, .slice (some ⟨pb, 0, none⟩) (k + 1) cp, .int .i64 ((k : Int) + 1), .int .i64 (k : Int), .tuple #[.agg #[.int .u64 xq, .slice pq lq cq], .agg #[.int .u64 xr, .slice pr lr cr], .bool true], .agg #[.int .u64 x, .slice p l c], .slice (some ⟨pb, 0, none⟩) (k + 1) cp, .int .i64 (k : Int), .pointer (some ⟨pb, k * 2, none⟩), .agg #[.int .u64 px, .slice pp pl pc], .tuple #[.agg #[.int .u64 xq, .slice pq lq cq], .agg #[.int .u64 xr, .slice pr lr cr], .bool true], .agg #[.int .u64 xq, .slice pq lq cq], .agg #[.int .u64 xr, .slice pr lr cr], .bool true, .agg #[.int .u64 xq, .slice pq lq cq], .slice pv xs.length cv, .slice (some ⟨pb, 0, none⟩) (k + 1) cp, .int .i64 (k : Int), .slice (some ⟨pb, 0, none⟩) k cp, .slice po x1 co, undef, .slice po x1 co, undef, undef, undef, undef], defers := [] } W := by
       intro W u hn ht hp hv hz kp bl
       rw [← hR]
       have c0 := u.c0
       have c1 := u.c1
       refine wpAnyIn_ready (rs := [0, 2, 3]) (by kernel_rfl) (by simp) ?_
       refine AllReadyIn.cons rfl (fun K hK => ?_) ?_
       · go_simp
         refine hK _ _ ?_
         rw [hR]; exact H1100000 W u hn ht hp hv hz kp bl
       refine AllReadyIn.cons rfl (fun K hK => ?_) ?_
       · go_simp
         refine hK _ _ ?_
         rw [hR]; exact H0110000 W u hn ht hp hv hz kp bl
       refine AllReadyIn.cons rfl (fun K hK => ?_) ?_
       · go_simp
         refine hK _ _ ?_
         rw [hR]; exact H0101000 W u hn ht hp hv hz kp bl
       exact AllReadyIn.nil
     have H0011100 : ∀ (W : World) (u : Var W br (.int .u64 xr) (.slice pr lr cr)) (hn : IsNat W (.agg #[.int .u64 xr, .slice pr lr cr]) Rm) (ht : Tab W) (hp : Pows W pb (k + 1)) (hv : Own W B .u8 5 (.slice po x1 co) (xs ++ codes t1)) (hz : B ≤ W.heap.size) (kp : Keeps (.slice pv xs.length cv) (.slice po x1 co) w W) (bl : Below B w W), R 4 #[false, false, true, true, true, false, false] { tmps := #[.agg #[.int .u64 x, .slice p l c], .slice po x1 co, .slice (some ⟨pb, 0, none⟩) (k + 1) cp, .pointer (some ⟨w.heap.size, 0, none⟩), undef, undef, .slice none 0 0, undef, .int .i64 (k : Int), .pointer (some ⟨bq, 0, none⟩), .pointer (some ⟨br, 0, none⟩), .bool true, .slice (some ⟨pb, 0, none⟩) (k + 1) cp, .int .i64 ((k : Int) + 1), .bool false, undef, undef, undef, undef, undef, undef, undef, undef, undef, undef, undef, .slice (some ⟨pb, 0, none⟩) (k + 1) cp, .int .i64 ((k : Int) + 1), .int .i64 (k : Int), .tuple #[.agg #[.int .u64 xq, .slice pq lq cq], .agg #[.int .u64 xr, .slice pr lr cr], .bool true], .agg #[.int .u64 x, .slice p l c], .slice (some ⟨pb, 0, none⟩) (k + 1) cp, .int .i64 (k : Int), .pointer (some ⟨pb, k * 2, none⟩), .agg #[.int .u64 px, .slice pp pl pc], .tuple #[.agg #[.int .u64 xq, .slice pq lq cq], .agg #[.int .u64 xr, .slice pr lr cr], .bool true], .agg #[.int .u64 xq, .slice pq lq cq], .agg #[.int .u64 xr, .slice pr lr cr], .bool true, .agg #[.int .u64 xq, .slice pq lq cq], .slice pv xs.length cv, .slice (some ⟨pb, 0, none⟩) (k + 1) cp, .int .i64 (k : Int), .slice (some ⟨pb, 0, none⟩) k cp, .slice po x1 co, undef, undef, .slice (some ⟨pb, 0, none⟩) (k + 1) cp, .int .i64 (k : Int), .slice (some ⟨pb, 0, none⟩) k cp, undef], defers := [] } W := by
       intro W u hn ht hp hv hz kp bl
       rw [← hR]
       have c0 := u.c0
       have c1 := u.c1
       refine wpAnyIn_ready (rs := [0, 1]) (by kernel_rfl) (by simp) ?_
       refine AllReadyIn.cons rfl (fun K hK => ?_) ?_
       · go_simp
         refine hK _ _ ?_
         rw [hR]; exact H1011100 W u hn ht hp hv hz kp bl
       refine AllReadyIn.cons rfl (fun K hK => ?_) ?_
       · go_simp
         refine hK _ _ ?_
         rw [hR]; exact H0111100 W u hn ht hp hv hz kp bl
       exact AllReadyIn.nil
     have H0011000 : ∀ (W : World) (u : Var W br (.int .u64 xr) (.slice pr lr cr)) (hn : IsNat W (.agg #[.int .u64 xr, .slice pr lr cr]) Rm) (ht : Tab W) (hp : Pows W pb (k + 1)) (hv : Own W B .u8 5 (.slice po x1 co) (xs ++ codes t1)) (hz : B ≤ W.heap.size) (kp : Keeps (.slice pv xs.length cv) (.slice po x1 co) w W) (bl : Below B w W), R 5 #[false, false, true, true, false, false, false] { tmps := #[.agg #[.int .u64 x, .slice p l c], .slice po x1 co, .slice (some ⟨pb, 0, none⟩) (k + 1) cp, .pointer (some ⟨w.heap.size, 0, none⟩), undef, undef, .slice none 0 0, undef, .int .i64 (k : Int), .pointer (some ⟨bq, 0, none⟩), .pointer (some ⟨br, 0, none⟩), .bool true, .slice (some ⟨pb, 0, none⟩) (k + 1) cp, .int .i64 ((k : Int) + 1), .bool false, undef, undef, undef, undef, undef, undef, undef, undef, undef, undef, undef, .slice (some ⟨pb, 0, none⟩) (k + 1) cp, .int .i64 ((k : Int) + 1), .int .i64 (k : Int), .tuple #[.agg #[.int .u64 xq, .slice pq lq cq], .agg #[.int .u64 xr, .slice pr lr cr], .bool true], .agg #[.int .u64 x, .slice p l c], .slice (some ⟨pb, 0, none⟩) (k + 1) cp, .int .i64 (k : Int), .pointer (some ⟨pb, k * 2, none⟩), .agg #[.int .u64 px, .slice pp pl pc], .tuple #[.agg #[.int .u64 xq, .slice pq lq cq], .agg #[.int .u64 xr, .slice pr lr cr], .bool true], .agg #[.int .u64 xq, .slice pq lq cq], .agg #[.int .u64 xr, .slice pr lr cr], .bool true, .agg #[.int .u64 xq, .slice pq lq cq], .slice pv xs.length cv, .slice (some ⟨pb, 0, none⟩) (k + 1) cp, .int .i64 (k : Int), .slice (some ⟨pb, 0, none⟩) k cp, .slice po x1 co, undef, undef, .slice (some ⟨pb, 0, none⟩) (k + 1) cp, .int .i64 (k : Int), undef, undef], defers := [] } W := by
       intro W u hn ht hp hv hz kp bl
       rw [← hR]
       have c0 := u.c0
       have c1 := u.c1
       refine wpAnyIn_ready (rs := [0, 1, 4]) (by kernel_rfl) (by simp) ?_
       refine AllReadyIn.cons rfl (fun K hK => ?_) ?_
       · go_simp
         refine hK _ _ ?_
         rw [hR]; exact H1011000 W u hn ht hp hv hz kp bl
       refine AllReadyIn.cons rfl (fun K hK => ?_) ?_
       · go_simp
         refine hK _ _ ?_
         rw [hR]; exact H0111000 W u hn ht hp hv hz kp bl
       refine AllReadyIn.cons rfl (fun K hK => ?_) ?_
       · go_simp
         refine hK _ _ ?_
         rw [hR]; exact H0011100 W u hn ht hp hv hz kp bl
       exact AllReadyIn.nil
     have H0010000 : ∀ (W : World) (u : Var W br (.int .u64 xr) (.slice pr lr cr)) (hn : IsNat W (.agg #[.int .u64 xr, .slice pr lr cr]) Rm) (ht : Tab W) (hp : Pows W pb (k + 1)) (hv : Own W B .u8 5 (.slice po x1 co) (xs ++ codes t1)) (hz : B ≤ W.heap.size) (kp : Keeps (.slice pv xs.length cv) (.slice po x1 co) w W) (bl : Below B w W), R 6 #[false, false, true, false, false, false, false] { tmps := #[.agg #[.int .u64 x, .slice p l c], .slice po x1 co, .slice (some ⟨pb, 0, none⟩) (k + 1) cp, .pointer (some ⟨w.heap.size, 0, none⟩), undef, undef, .slice none 0 0, undef, .int .i64 (k : Int), .pointer (some ⟨bq, 0, none⟩), .pointer (some ⟨br, 0, none⟩), .bool true, .slice (some ⟨pb, 0, none⟩) (k + 1) cp, .int .i64 ((k : Int) + 1), .bool false, undef, undef, undef, undef, undef, undef, undef, undef, undef, undef, undef, .slice (some ⟨pb, 0, none⟩) (k + 1) cp, .int .i64 ((k : Int) + 1), .int .i64 (k : Int), .tuple #[.agg #[.int .u64 xq, .slice pq lq cq], .agg #[.int .u64 xr, .slice pr lr cr], .bool true], .agg #[.int .u64 x, .slice p l c], .slice (some ⟨pb, 0, none⟩) (k + 1) cp, .int .i64 (k : Int), .pointer (some ⟨pb, k * 2, none⟩), .agg #[.int .u64 px, .slice pp pl pc], .tuple #[.agg #[.int .u64 xq, .slice pq lq cq], .agg #[.int .u64 xr, .slice pr lr cr], .bool true], .agg #[.int .u64 xq, .slice pq lq cq], .agg #[.int .u64 xr, .slice pr lr cr], .bool true, .agg #[.int .u64 xq, .slice pq lq cq], .slice pv xs.length cv, .slice (some ⟨pb, 0, none⟩) (k + 1) cp, .int .i64 (k : Int), .slice (some ⟨pb, 0, none⟩) k cp, .slice po x1 co, undef, undef, .slice (some ⟨pb, 0, none⟩) (k + 1) cp, undef, undef, undef], defers := [] } W := by
       intro W u hn ht hp hv hz kp bl
       rw [← hR]
       have c0 := u.c0
       have c1 := u.c1
       refine wpAnyIn_ready (rs := [0, 1, 3]) (by kernel_rfl) (by simp) ?_
       refine AllReadyIn.cons rfl (fun K hK => ?_) ?_
       · go_simp
         refine hK _ _ ?_
         rw [hR]; exact H1010000 W u hn ht hp hv hz kp bl
       refine AllReadyIn.cons rfl (fun K hK => ?_) ?_
       · go_simp
         refine hK _ _ ?_
         rw [hR]; exact H0110000 W u hn ht hp hv hz kp bl
       refine AllReadyIn.cons rfl (fun K hK => ?_) ?_
       · go_simp
         refine hK _ _ ?_
         rw [hR]; exact H0011000 W u hn ht hp hv hz kp bl
       exact AllReadyIn.nil
     have H0001000 : ∀ (W : World) (u : Var W br (.int .u64 xr) (.slice pr lr cr)) (hn : IsNat W (.agg #[.int .u64 xr, .slice pr lr cr]) Rm) (ht : Tab W) (hp : Pows W pb (k + 1)) (hv : Own W B .u8 5 (.slice po x1 co) (xs ++ codes t1)) (hz : B ≤ W.heap.size) (kp : Keeps (.slice pv xs.length cv) (.slice po x1 co) w W) (bl : Below B w W), R 6 #[false, false, false, true, false, false, false] { tmps := #[.agg #[.int .u64 x, .slice p l c], .slice po x1 co, .slice (some ⟨pb, 0, none⟩) (k + 1) cp, .pointer (some ⟨w.heap.size, 0, none⟩), undef, undef, .slice none 0 0, undef, .int .i64 (k : Int), .pointer (some ⟨bq, 0, none⟩), .pointer (some ⟨br, 0, none⟩), .bool true, .slice (some ⟨pb, 0, none⟩) (k + 1) cp, .int .i64 ((k : Int) + 1), .bool false, undef, undef, undef, undef, undef, undef, undef, undef, undef, undef, undef, .slice (some ⟨pb, 0, none⟩) (k + 1) cp, .int .i64 ((k : Int) + 1), .int .i64 (k : Int), .tuple #[.agg #[.int .u64 xq, .slice pq lq cq], .agg #[.int .u64 xr, .slice pr lr cr], .bool true], .agg #[.int .u64 x, .slice p l c], .slice (some ⟨pb, 0, none⟩) (k + 1) cp, .int .i64 (k : Int), .pointer (some ⟨pb, k * 2, none⟩), .agg #[.int .u64 px, .slice pp pl pc], .tuple #[.agg #[.int .u64 xq, .slice pq lq cq], .agg #[.int .u64 xr, .slice pr lr cr], .bool true], .agg #[.int .u64 xq, .slice pq lq cq], .agg #[.int .u64 xr, .slice pr lr cr], .bool true, .agg #[.int .u64 xq, .slice pq lq cq], .slice pv xs.length cv, .slice (some ⟨pb, 0, none⟩) (k + 1) cp, .int .i64 (k : Int), .slice (some ⟨pb, 0, none⟩) k cp, .slice po x1 co, undef, undef, undef, .int .i64 (k : Int), undef, undef], defers := [] } W := by
       intro W u hn ht hp hv hz kp bl
       rw [← hR]
       have c0 := u.c0
       have c1 := u.c1
       refine wpAnyIn_ready (rs := [0, 1, 2]) (by kernel_rfl) (by simp) ?_
       refine AllReadyIn.cons rfl (fun K hK => ?_) ?_
       · go_simp
         refine hK _ _ ?_
         rw [hR]; exact H1001000 W u hn ht hp hv hz kp bl
       refine AllReadyIn.cons rfl (fun K hK => ?_) ?_
       · go_simp
         refine hK _ _ ?_
         rw [hR]; exact H0101000 W u hn ht hp hv hz kp bl
       refine AllReadyIn.cons rfl (fun K hK => ?_) ?_
       · go_simp
         refine hK _ _ ?_
         rw [hR]; exact H0011000 W u hn ht hp hv hz kp bl
       exact AllReadyIn.nil
     have H0000000 : ∀ (W : World) (u : Var W br (.int .u64 xr) (.slice pr lr cr)) (hn : IsNat W (.agg #[.int .u64 xr, .slice pr lr cr]) Rm) (ht : Tab W) (hp : Pows W pb (k + 1)) (hv : Own W B .u8 5 (.slice po x1 co) (xs ++ codes t1)) (hz : B ≤ W.heap.size) (kp : Keeps (.slice pv xs.length cv) (.slice po x1 co) w W) (bl : Below B w W), R 7 #[false, false, false, false, false, false, false] { tmps := #[.agg #[.int .u64 x, .slice p l c], .slice po x1 co, .slice (some ⟨pb, 0, none⟩) (k + 1) cp, .pointer (some ⟨w.heap.size, 0, none⟩), undef, undef, .slice none 0 0, undef, .int .i64 (k : Int), .pointer (some ⟨bq, 0, none⟩), .pointer (some ⟨br, 0, none⟩), .bool true, .slice (some ⟨pb, 0, none⟩) (k + 1) cp, .int .i64 ((k : Int) + 1), .bool false, undef, undef, undef, undef, undef, undef, undef, undef, undef, undef, undef, .slice (some ⟨pb, 0, none⟩) (k + 1) cp, .int .i64 ((k : Int) + 1), .int .i64 (k : Int), .tuple #[.agg #[.int .u64 xq, .slice pq lq cq], .agg #[.int .u64 xr, .slice pr lr cr], .bool true], .agg #[.int .u64 x, .slice p l c], .slice (some ⟨pb, 0, none⟩) (k + 1) cp, .int .i64 (k : Int), .pointer (some ⟨pb, k * 2, none⟩), .agg #[.int .u64 px, .slice pp pl pc], .tuple #[.agg #[.int .u64 xq, .slice pq lq cq], .agg #[.int .u64 xr, .slice pr lr cr], .bool true], .agg #[.int .u64 xq, .slice pq lq cq], .agg #[.int .u64 xr, .slice pr lr cr], .bool true, .agg #[.int .u64 xq, .slice pq lq cq], .slice pv xs.length cv, .slice (some ⟨pb, 0, none⟩) (k + 1) cp, .int .i64 (k : Int), .slice (some ⟨pb, 0, none⟩) k cp, .slice po x1 co, undef, undef, undef, undef, undef, undef], defers := [] } W := by
       intro W u hn ht hp hv hz kp bl
       rw [← hR]
       have c0 := u.c0
       have c1 := u.c1
       refine wpAnyIn_ready (rs := [0, 1, 2, 3]) (by kernel_rfl) (by simp) ?_
       refine AllReadyIn.cons rfl (fun K hK => ?_) ?_
       · go_simp
         refine hK _ _ ?_
         rw [hR]; exact H1000000 W u hn ht hp hv hz kp bl
       refine AllReadyIn.cons rfl (fun K hK => ?_) ?_
       · go_simp
         refine hK _ _ ?_
         rw [hR]; exact H0100000 W u hn ht hp hv hz kp bl
       refine AllReadyIn.cons rfl (fun K hK => ?_) ?_
       · go_simp
         refine hK _ _ ?_
         rw [hR]; exact H0010000 W u hn ht hp hv hz kp bl
       refine AllReadyIn.cons rfl (fun K hK => ?_) ?_
       · go_simp
         refine hK _ _ ?_
         rw [hR]; exact H0001000 W u hn ht hp hv hz kp bl
       exact AllReadyIn.nil
     exact H0000000 W.drew hd hs2 ht2 hp2 hv2 hz2 kp2 bl2.drew
   have H1111110 : ∀ (W : World)  (vo : Value) (t1 : ByteArray) (hv : Own W B .u8 5 vo (xs ++ codes t1)) (ht1 : t1.size = m) (ht2 : Digs t1) (ht3 : decTo t1 m = Q) (ht : Tab W) (hp : Pows W pb (k + 1)) (uu : Var W br (.int .u64 xr) (.slice pr lr cr)) (hm : IsNat W (.agg #[.int .u64 xr, .slice pr lr cr]) Rm) (hz : B ≤ W.heap.size) (kp : Keeps (.slice pv xs.length cv) vo w W) (bl : Below B w W), R 1 #[true, true, true, true, true, true, false] { tmps := #[.agg #[.int .u64 x, .slice p l c], .slice pv xs.length cv, .slice (some ⟨pb, 0, none⟩) (k + 1) cp, .pointer (some ⟨w.heap.size, 0, none⟩), undef, undef, .slice none 0 0, undef, .int .i64 (k : Int), .pointer (some ⟨bq, 0, none⟩), .pointer (some ⟨br, 0, none⟩), .bool true, .slice (some ⟨pb, 0, none⟩) (k + 1) cp, .int .i64 ((k : Int) + 1), .bool false, undef, undef, undef, undef, undef, undef, undef, undef, undef, undef, undef, .slice (some ⟨pb, 0, none⟩) (k + 1) cp, .int .i64 ((k : Int) + 1), .int .i64 (k : Int), .tuple #[.agg #[.int .u64 xq, .slice pq lq cq], .agg #[.int .u64 xr, .slice pr lr cr], .bool true], .agg #[.int .u64 x, .slice p l c], .slice (some ⟨pb, 0, none⟩) (k + 1) cp, .int .i64 (k : Int), .pointer (some ⟨pb, k * 2, none⟩), .agg #[.int .u64 px, .slice pp pl pc], .tuple #[.agg #[.int .u64 xq, .slice pq lq cq], .agg #[.int .u64 xr, .slice pr lr cr], .bool true], .agg #[.int .u64 xq, .slice pq lq cq], .agg #[.int .u64 xr, .slice pr lr cr], .bool true, .agg #[.int .u64 xq, .slice pq lq cq], .slice pv xs.length cv, .slice (some ⟨pb, 0, none⟩) (k + 1) cp, .int .i64 (k : Int), .slice (some ⟨pb, 0, none⟩) k cp, vo, undef, undef, undef, undef, undef, undef], defers := [] } W := by
     intro W vo t1 hv ht1 ht2 ht3 ht hp uu hm hz kp bl
     rw [← hR]
     refine wpAnyIn_ready (rs := [6]) (by kernel_rfl) (by simp) ?_
     refine AllReadyIn.cons rfl (fun K hK => ?_) ?_
     · go_simp
       refine hK _ _ ?_
       rw [hR]; exact H1111111 W vo t1 hv ht1 ht2 ht3 ht hp uu hm hz kp bl
     exact AllReadyIn.nil
   have H1111100 : ∀ (W : World) (u : Var W bq (.int .u64 xq) (.slice pq lq cq)) (hn : IsNat W (.agg #[.int .u64 xq, .slice pq lq cq]) Q) (ht : Tab W) (hp : Pows W pb (k + 1)) (hv : Own W B .u8 5 (.slice pv xs.length cv) xs) (hz : B ≤ W.heap.size) (uu : Var W br (.int .u64 xr) (.slice pr lr cr)) (hm : IsNat W (.agg #[.int .u64 xr, .slice pr lr cr]) Rm) (kp : Keeps (.slice pv xs.length cv) (.slice pv xs.length cv) w W) (bl : Below B w W), R 2 #[true, true, true, true, true, false, false] { tmps := #[.agg #[.int .u64 x, .slice p l c], .slice pv xs.length cv, .slice (some ⟨pb, 0, none⟩) (k + 1) cp, .pointer (some ⟨w.heap.size, 0, none⟩), undef, undef, .slice none 0 0, undef, .int .i64 (k : Int), .pointer (some ⟨bq, 0, none⟩), .pointer (some ⟨br, 0, none⟩), .bool true, .slice (some ⟨pb, 0, none⟩) (k + 1) cp, .int .i64 ((k : Int) + 1), .bool false, undef, undef, undef, undef, undef, undef, undef, undef, undef, undef, undef, .slice (some ⟨pb, 0, none⟩) (k + 1) cp, .int .i64 ((k : Int) + 1), .int .i64 (k : Int), .tuple #[.agg #[.int .u64 xq, .slice pq lq cq], .agg #[.int .u64 xr, .slice pr lr cr], .bool true], .agg #[.int .u64 x, .slice p l c], .slice (some ⟨pb, 0, none⟩) (k + 1) cp, .int .i64 (k : Int), .pointer (some ⟨pb, k * 2, none⟩), .agg #[.int .u64 px, .slice pp pl pc], .tuple #[.agg #[.int .u64 xq, .slice pq lq cq], .agg #[.int .u64 xr, .slice pr lr cr], .bool true], .agg #[.int .u64 xq, .slice pq lq cq], .agg #[.int .u64 xr, .slice pr lr cr], .bool true, .agg #[.int .u64 xq, .slice pq lq cq], .slice pv xs.length cv, .slice (some ⟨pb, 0, none⟩) (k + 1) cp, .int .i64 (k : Int), .slice (some ⟨pb, 0, none⟩) k cp, undef, undef, undef, undef, undef, undef, undef], defers := [] } W := by
     intro W u hn ht hp hv hz uu hm kp bl
     rw [← hR]
     have c0 := u.c0
     have c1 := u.c1
     refine wpAnyIn_ready (rs := [5]) (by kernel_rfl) (by simp) ?_
     refine AllReadyIn.cons rfl (fun K hK => ?_) ?_
     · go_simp
       gi_wp2_with (refine ⟨trivial, ?_⟩; gi_at_call 33; refine (callsIn_wide.2 (ih cp pb _ Q _ _ B W (by omega) ht (hp.less (by omega)) hn HQP.out HQK.out hz hv (by omega))).mono ?_; rintro e W2 ⟨vo, t1, rfl, ho2, ht1, ht2, ht3, hbl, hkp⟩; skip)
       rw [hR]; exact H1111110 W2 vo t1 ho2 ht1 ht2 ht3 (ht.keeps hv hkp) (hp.keeps hv hkp) (uu.keeps hv hkp) (hm.keeps hv hkp) (Nat.le_trans hz hbl.size) (kp.trans hkp) (bl.trans hbl)
     exact AllReadyIn.nil
   have H1111000 : ∀ (W : World) (u : Var W bq (.int .u64 xq) (.slice pq lq cq)) (hn : IsNat W (.agg #[.int .u64 xq, .slice pq lq cq]) Q) (ht : Tab W) (hp : Pows W pb (k + 1)) (hv : Own W B .u8 5 (.slice pv xs.length cv) xs) (hz : B ≤ W.heap.size) (uu : Var W br (.int .u64 xr) (.slice pr lr cr)) (hm : IsNat W (.agg #[.int .u64 xr, .slice pr lr cr]) Rm) (kp : Keeps (.slice pv xs.length cv) (.slice pv xs.length cv) w W) (bl : Below B w W), R 3 #[true, true, true, true, false, false, false] { tmps := #[.agg #[.int .u64 x, .slice p l c], .slice pv xs.length cv, .slice (some ⟨pb, 0, none⟩) (k + 1) cp, .pointer (some ⟨w.heap.size, 0, none⟩), undef, undef, .slice none 0 0, undef, .int .i64 (k : Int), .pointer (some ⟨bq, 0, none⟩), .pointer (some ⟨br, 0, none⟩), .bool true, .slice (some ⟨pb, 0, none⟩) (k + 1) cp, .int .i64 ((k : Int) + 1), .bool false, undef, undef, undef, undef, undef, undef, undef, undef, undef, undef, undef, .slice (some ⟨pb, 0, none⟩) (k + 1) cp, .int .i64 ((k : Int) + 1), .int .i64 (k : Int), .tuple #[.agg #[.int .u64 xq, .slice pq lq cq], .agg #[.int .u64 xr, .slice pr lr cr], .bool true], .agg #[.int .u64 x, .slice p l c], .slice (some ⟨pb, 0, none⟩) (k + 1) cp, .int .i64 (k : Int), .pointer (some ⟨pb, k * 2, none⟩), .agg #[.int .u64 px, .slice pp pl pc], .tuple #[.agg #[.int .u64 xq, .slice pq lq cq], .agg #[.int .u64 xr, .slice pr lr cr], .bool true], .agg #[.int .u64 xq, .slice pq lq cq], .agg #[.int .u64 xr, .slice pr lr cr], .bool true, .agg #[.int .u64 xq, .slice pq lq cq], .slice pv xs.length cv, .slice (some ⟨pb, 0, none⟩) (k + 1) cp, .int .i64 (k : Int), undef, undef, undef, undef, undef, undef, undef, undef], defers := [] } W := by
     intro W u hn ht hp hv hz uu hm kp bl
     rw [← hR]
     have c0 := u.c0
     have c1 := u.c1
     refine wpAnyIn_ready (rs := [4]) (by kernel_rfl) (by simp) ?_
     refine AllReadyIn.cons rfl (fun K hK => ?_) ?_
     · go_simp
       refine hK _ _ ?_
       rw [hR]; exact H1111100 W u hn ht hp hv hz uu hm kp bl
     exact AllReadyIn.nil
   have H1110000 : ∀ (W : World) (u : Var W bq (.int .u64 xq) (.slice pq lq cq)) (hn : IsNat W (.agg #[.int .u64 xq, .slice pq lq cq]) Q) (ht : Tab W) (hp : Pows W pb (k + 1)) (hv : Own W B .u8 5 (.slice pv xs.length cv) xs) (hz : B ≤ W.heap.size) (uu : Var W br (.int .u64 xr) (.slice pr lr cr)) (hm : IsNat W (.agg #[.int .u64 xr, .slice pr lr cr]) Rm) (kp : Keeps (.slice pv xs.length cv) (.slice pv xs.length cv) w W) (bl : Below B w W), R 4 #[true, true, true, false, false, false, false] { tmps := #[.agg #[.int .u64 x, .slice p l c], .slice pv xs.length cv, .slice (some ⟨pb, 0, none⟩) (k + 1) cp, .pointer (some ⟨w.heap.size, 0, none⟩), undef, undef, .slice none 0 0, undef, .int .i64 (k : Int), .pointer (some ⟨bq, 0, none⟩), .pointer (some ⟨br, 0, none⟩), .bool true, .slice (some ⟨pb, 0, none⟩) (k + 1) cp, .int .i64 ((k : Int) + 1), .bool false, undef, undef, undef, undef, undef, undef, undef, undef, undef, undef, undef, .slice (some ⟨pb, 0, none⟩) (k + 1) cp, .int .i64 ((k : Int) + 1), .int .i64 (k : Int), .tuple #[.agg #[.int .u64 xq, .slice pq lq cq], .agg #[.int .u64 xr, .slice pr lr cr], .bool true], .agg #[.int .u64 x, .slice p l c], .slice (some ⟨pb, 0, none⟩) (k + 1) cp, .int .i64 (k : Int), .pointer (some ⟨pb, k * 2, none⟩), .agg #[.int .u64 px, .slice pp pl pc], .tuple #[.agg #[.int .u64 xq, .slice pq lq cq], .agg #[.int .u64 xr, .slice pr lr cr], .bool true], .agg #[.int .u64 xq, .slice pq lq cq], .agg #[.int .u64 xr, .slice pr lr cr], .bool true, .agg #[.int .u64 xq, .slice pq lq cq], .slice pv xs.length cv, .slice (some ⟨pb, 0, none⟩) (k + 1) cp, undef, undef, undef, undef, undef, undef, undef, undef, undef], defers := [] } W := by
     intro W u hn ht hp hv hz uu hm kp bl
     rw [← hR]
     have c0 := u.c0
     have c1 := u.c1
     refine wpAnyIn_ready (rs := [3]) (by kernel_rfl) (by simp) ?_
     refine AllReadyIn.cons rfl (fun K hK => ?_) ?_
     · go_simp
       refine hK _ _ ?_
       rw [hR]; exact H1111000 W u hn ht hp hv hz uu hm kp bl
     exact AllReadyIn.nil
   have H1101000 : ∀ (W : World) (u : Var W bq (.int .u64 xq) (.slice pq lq cq)) (hn : IsNat W (.agg #[.int .u64 xq, .slice pq lq cq]) Q) (ht : Tab W) (hp : Pows W pb (k + 1)) (hv : Own W B .u8 5 (.slice pv xs.length cv) xs) (hz : B ≤ W.heap.size) (uu : Var W br (.int .u64 xr) (.slice pr lr cr)) (hm : IsNat W (.agg #[.int .u64 xr, .slice pr lr cr]) Rm) (kp : Keeps (.slice pv xs.length cv) (.slice pv xs.length cv) w W) (bl : Below B w W), R 4 #[true, true, false, true, false, false, false] { tmps := #[.agg #[.int .u64 x, .slice p l c], .slice pv xs.length cv, .slice (some ⟨pb, 0, none⟩) (k + 1) cp, .pointer (some ⟨w.heap.size, 0, none⟩), undef, undef, .slice none 0 0, undef, .int .i64 (k : Int), .pointer (some ⟨bq, 0, none⟩), .pointer (some ⟨br, 0, none⟩), .bool true, .slice (some ⟨pb, 0, none⟩) (k + 1) cp, .int .i64 ((k : Int) + 1), .bool false, undef, undef, undef, undef, undef, undef, undef, undef, undef, undef, undef, .slice (some ⟨pb, 0, none⟩) (k + 1) cp, .int .i64 ((k : Int) + 1), .int .i64 (k : Int), .tuple #[.agg #[.int .u64 xq, .slice pq lq cq], .agg #[.int .u64 xr, .slice pr lr cr], .bool true], .agg #[.int .u64 x, .slice p l c], .slice (some ⟨pb, 0, none⟩) (k + 1) cp, .int .i64 (k : Int), .pointer (some ⟨pb, k * 2, none⟩), .agg #[.int .u64 px, .slice pp pl pc], .tuple #[.agg #[.int .u64 xq, .slice pq lq cq], .agg #[.int .u64 xr, .slice pr lr cr], .bool true], .agg #[.int .u64 xq, .slice pq lq cq], .agg #[.int .u64 xr, .slice pr lr cr], .bool true, .agg #[.int .u64 xq, .slice pq lq cq], .slice pv xs.length cv, undef, .int .i64 (k : Int), undef, undef, undef, undef, undef, undef, undef, undef], defers := [] } W := by
     intro W u hn ht hp hv hz uu hm kp bl
     rw [← hR]
     have c0 := u.c0
     have c1 := u.c1
     refine wpAnyIn_ready (rs := [2]) (by kernel_rfl) (by simp) ?_
     refine AllReadyIn.cons rfl (fun K hK => ?_) ?_
     · go_simp
       refine hK _ _ ?_
       rw [hR]; exact H1111000 W u hn ht hp hv hz uu hm kp bl
     exact AllReadyIn.nil
   have H1100000 : ∀ (W : World) (u : Var W bq (.int .u64 xq) (.slice pq lq cq)) (hn : IsNat W (.agg #[.int .u64 xq, .slice pq lq cq]) Q) (ht : Tab W) (hp : Pows W pb (k + 1)) (hv : Own W B .u8 5 (.slice pv xs.length cv) xs) (hz : B ≤ W.heap.size) (uu : Var W br (.int .u64 xr) (.slice pr lr cr)) (hm : IsNat W (.agg #[.int .u64 xr, .slice pr lr cr]) Rm) (kp : Keeps (.slice pv xs.length cv) (.slice pv xs.length cv) w W) (bl : Below B w W), R 5 #[true, true, false, false, false, false, false] { tmps := #[.agg #[.int .u64 x, .slice p l c], .slice pv xs.length cv, .slice (some ⟨pb, 0, none⟩) (k + 1) cp, .pointer (some ⟨w.heap.size, 0, none⟩), undef, undef, .slice none 0 0, undef, .int .i64 (k : Int), .pointer (some ⟨bq, 0, none⟩), .pointer (some ⟨br, 0, none⟩), .bool true, .slice (some ⟨pb, 0, none⟩) (k + 1) cp, .int .i64 ((k : Int) + 1), .bool false, undef, undef, undef, undef, undef, undef, undef, undef, undef, undef, undef, .slice (some ⟨pb, 0, none⟩) (k + 1) cp, .int .i64 ((k : Int) + 1), .int .i64 (k : Int), .tuple #[.agg #[.int .u64 xq, .slice pq lq cq], .agg #[.int .u64 xr, .slice pr lr cr], .bool true], .agg #[.int .u64 x, .slice p l c], .slice (some ⟨pb, 0, none⟩) (k + 1) cp, .int .i64 (k : Int), .pointer (some ⟨pb, k * 2, none⟩), .agg #[.int .u64 px, .slice pp pl pc], .tuple #[.agg #[.int .u64 xq, .slice pq lq cq], .agg #[.int .u64 xr, .slice pr lr cr], .bool true], .agg #[.int .u64 xq, .slice pq lq cq], .agg #[.int .u64 xr, .slice pr lr cr], .bool true, .agg #[.int .u64 xq, .slice pq lq cq], .slice pv xs.length cv, undef, undef, undef, undef, undef, undef, undef, undef, undef, undef], defers := [] } W := by
     intro W u hn ht hp hv hz uu hm kp bl
     rw [← hR]
     have c0 := u.c0
     have c1 := u.c1
     refine wpAnyIn_ready (rs := [2, 3]) (by kernel_rfl) (by simp) ?_
     refine AllReadyIn.cons rfl (fun K hK => ?_) ?_
     · go_simp
       refine hK _ _ ?_
       rw [hR]; exact H1110000 W u hn ht hp hv hz uu hm kp bl
     refine AllReadyIn.cons rfl (fun K hK => ?_) ?_
     · go_simp
       refine hK _ _ ?_
       rw [hR]; exact H1101000 W u hn ht hp hv hz uu hm kp bl
     exact AllReadyIn.nil
   have H1011100 : ∀ (W : World) (u : Var W bq (.int .u64 xq) (.slice pq lq cq)) (hn : IsNat W (.agg #[.int .u64 xq, .slice pq lq cq]) Q) (ht : Tab W) (hp : Pows W pb (k + 1)) (hv : Own W B .u8 5 (.slice pv xs.length cv) xs) (hz : B ≤ W.heap.size) (uu : Var W br (.int .u64 xr) (.slice pr lr cr)) (hm : IsNat W (.agg #[.int .u64 xr, .slice pr lr cr]) Rm) (kp : Keeps (.slice pv xs.length cv) (.slice pv xs.length cv) w W) (bl : Below B w W), R 3 #[true, false, true, true, true, false, false] { tmps := #[.agg #[.int .u64 x, .slice p l c], .slice pv xs.length cv, .slice (some ⟨pb, 0, none⟩) (k + 1) cp, .pointer (some ⟨w.heap.size, 0, none⟩), undef, undef, .slice none 0 0, undef, .int .i64 (k : Int), .pointer (some ⟨bq, 0, none⟩), .pointer (some ⟨br, 0, none⟩), .bool true, .slice (some ⟨pb, 0, none⟩) (k + 1) cp, .int .i64 ((k : Int) + 1), .bool false, undef, undef, undef, undef, undef, undef, undef, undef, undef, undef, undef, .slice (some ⟨pb, 0, none⟩) (k + 1) cp, .int .i64 ((k : Int) + 1), .int .i64 (k : Int), .tuple #[.agg #[.int .u64 xq, .slice pq lq cq], .agg #[.int .u64 xr, .slice pr lr cr], .bool true], .agg #[.int .u64 x, .slice p l c], .slice (some ⟨pb, 0, none⟩) (k + 1) cp, .int .i64 (k : Int), .pointer (some ⟨pb, k * 2, none⟩), .agg #[.int .u64 px, .slice pp pl pc], .tuple #[.agg #[.int .u64 xq, .slice pq lq cq], .agg #[.int .u64 xr, .slice pr lr cr], .bool true], .agg #[.int .u64 xq, .slice pq lq cq], .agg #[.int .u64 xr, .slice pr lr cr], .bool true, .agg #[.int .u64 xq, .slice pq lq cq], undef, .slice (some ⟨pb, 0, none⟩) (k + 1) cp, .int .i64 (k : Int), .slice (some ⟨pb, 0, none⟩) k cp, undef, undef, undef, undef, undef, undef, undef], defers := [] } W := by
     intro W u hn ht hp hv hz uu hm kp bl
     rw [← hR]
     have c0 := u.c0
     have c1 := u.c1
     refine wpAnyIn_ready (rs := [1]) (by kernel_rfl) (by simp) ?_
     refine AllReadyIn.cons rfl (fun K hK => ?_) ?_
     · go_simp
       refine hK _ _ ?_
       rw [hR]; exact H1111100 W u hn ht hp hv hz uu hm kp bl
     exact AllReadyIn.nil
   have H1011000 : ∀ (W : World) (u : Var W bq (.int .u64 xq) (.slice pq lq cq)) (hn : IsNat W (.agg #[.int .u64 xq, .slice pq lq cq]) Q) (ht : Tab W) (hp : Pows W pb (k + 1)) (hv : Own W B .u8 5 (.slice pv xs.length cv) xs) (hz : B ≤ W.heap.size) (uu : Var W br (.int .u64 xr) (.slice pr lr cr)) (hm : IsNat W (.agg #[.int .u64 xr, .slice pr lr cr]) Rm) (kp : Keeps (.slice pv xs.length cv) (.slice pv xs.length cv) w W) (bl : Below B w W), R 4 #[true, false, true, true, false, false, false] { tmps := #[.agg #[.int .u64 x, .slice p l c], .slice pv xs.length cv, .slice (some ⟨pb, 0, none⟩) (k + 1) cp, .pointer (some ⟨w.heap.size, 0, none⟩), undef, undef, .slice none 0 0, undef, .int .i64 (k : Int), .pointer (some ⟨bq, 0, none⟩), .pointer (some ⟨br, 0, none⟩), .bool true, .slice (some ⟨pb, 0, none⟩) (k + 1) cp, .int .i64 ((k : Int) + 1), .bool false, undef, undef, undef, undef, undef, undef, undef, undef, undef, undef, undef, .slice (some ⟨pb, 0, none⟩) (k + 1) cp, .int .i64 ((k : Int) + 1), .int .i64 (k : Int), .tuple #[.agg #[.int .u64 xq, .slice pq lq cq], .agg #[.int .u64 xr, .slice pr lr cr], .bool true], .agg #[.int .u64 x, .slice p l c], .slice (some ⟨pb, 0, none⟩) (k + 1) cp, .int .i64 (k : Int), .pointer (some ⟨pb, k * 2, none⟩), .agg #[.int .u64 px, .slice pp pl pc], .tuple #[.agg #[.int .u64 xq, .slice pq lq cq], .agg #[.int .u64 xr, .slice pr lr cr], .bool true], .agg #[.int .u64 xq, .slice pq lq cq], .agg #[.int .u64 xr, .slice pr lr cr], .bool true, .agg #[.int .u64 xq, .slice pq lq cq], undef, .slice (some ⟨pb, 0, none⟩) (k + 1) cp, .int .i64 (k : Int), undef, undef, undef, undef, undef, undef, undef, undef], defers := [] } W := by
     intro W u hn ht hp hv hz uu hm kp bl
     rw [← hR]
     have c0 := u.c0
     have c1 := u.c1
     refine wpAnyIn_ready (rs := [1, 4]) (by kernel_rfl) (by simp) ?_
     refine AllReadyIn.cons rfl (fun K hK => ?_) ?_
     · go_simp
       refine hK _ _ ?_
       rw [hR]; exact H1111000 W u hn ht hp hv hz uu hm kp bl
     refine AllReadyIn.cons rfl (fun K hK => ?_) ?_
     · go_simp
       refine hK _ _ ?_
       rw [hR]; exact H1011100 W u hn ht hp hv hz uu hm kp bl
     exact AllReadyIn.nil
   have H1010000 : ∀ (W : World) (u : Var W bq (.int .u64 xq) (.slice pq lq cq)) (hn : IsNat W (.agg #[.int .u64 xq, .slice pq lq cq]) Q) (ht : Tab W) (hp : Pows W pb (k + 1)) (hv : Own W B .u8 5 (.slice pv xs.length cv) xs) (hz : B ≤ W.heap.size) (uu : Var W br (.int .u64 xr) (.slice pr lr cr)) (hm : IsNat W (.agg #[.int .u64 xr, .slice pr lr cr]) Rm) (kp : Keeps (.slice pv xs.length cv) (.slice pv xs.length cv) w W) (bl : Below B w W), R 5 #[true, false, true, false, false, false, false] { tmps := #[.agg #[.int .u64 x, .slice p l c], .slice pv xs.length cv, .slice (some ⟨pb, 0, none⟩) (k + 1) cp, .pointer (some ⟨w.heap.size, 0, none⟩), undef, undef, .slice none 0 0, undef, .int .i64 (k : Int), .pointer (some ⟨bq, 0, none⟩), .pointer (some ⟨br, 0, none⟩), .bool true, .slice (some ⟨pb, 0, none⟩) (k + 1) cp, .int .i64 ((k : Int) + 1), .bool false, undef, undef, undef, undef, undef, undef, undef, undef, undef, undef, undef, .slice (some ⟨pb, 0, none⟩) (k + 1) cp, .int .i64 ((k : Int) + 1), .int .i64 (k : Int), .tuple #[.agg #[.int .u64 xq, .slice pq lq cq], .agg #[.int .u64 xr, .slice pr lr cr], .bool true], .agg #[.int .u64 x, .slice p l c], .slice (some ⟨pb, 0, none⟩) (k + 1) cp, .int .i64 (k : Int), .pointer (some ⟨pb, k * 2, none⟩), .agg #[.int .u64 px, .slice pp pl pc], .tuple #[.agg #[.int .u64 xq, .slice pq lq cq], .agg #[.int .u64 xr, .slice pr lr cr], .bool true], .agg #[.int .u64 xq, .slice pq lq cq], .agg #[.int .u64 xr, .slice pr lr cr], .bool true, .agg #[.int .u64 xq, .slice pq lq cq], undef, .slice (some ⟨pb, 0, none⟩) (k + 1) cp, undef, undef, undef, undef, undef, undef, undef, undef, undef], defers := [] } W := by
     intro W u hn ht hp hv hz uu hm kp bl
     rw [← hR]
     have c0 := u.c0
     have c1 := u.c1
     refine wpAnyIn_ready (rs := [1, 3]) (by kernel_rfl) (by simp) ?_
     refine AllReadyIn.cons rfl (fun K hK => ?_) ?_
     · go_simp
       refine hK _ _ ?_
       rw [hR]; exact H1110000 W u hn ht hp hv hz uu hm kp bl
     refine AllReadyIn.cons rfl (fun K hK => ?_) ?_
     · go_simp
       refine hK _ _ ?_
       rw [hR]; exact H1011000 W u hn ht hp hv hz uu hm kp bl
     exact AllReadyIn.nil
   have H1001000 : ∀ (W : World) (u : Var W bq (.int .u64 xq) (.slice pq lq cq)) (hn : IsNat W (.agg #[.int .u64 xq, .slice pq lq cq]) Q) (ht : Tab W) (hp : Pows W pb (k + 1)) (hv : Own W B .u8 5 (.slice pv xs.length cv) xs) (hz : B ≤ W.heap.size) (uu : Var W br (.int .u64 xr) (.slice pr lr cr)) (hm : IsNat W (.agg #[.int .u64 xr, .slice pr lr cr]) Rm) (kp : Keeps (.slice pv xs.length cv) (.slice pv xs.length cv) w W) (bl : Below B w W), R 5 #[true, false, false, true, false, false, false] { tmps := #[.agg #[.int .u64 x, .slice p l c], .slice pv xs.length cv, .slice (some ⟨pb, 0, none⟩) (k + 1) cp, .pointer (some ⟨w.heap.size, 0, none⟩), undef, undef, .slice none 0 0, undef, .int .i64 (k : Int), .pointer (some ⟨bq, 0, none⟩), .pointer (some ⟨br, 0, none⟩), .bool true, .slice (some ⟨pb, 0, none⟩) (k + 1) cp, .int .i64 ((k : Int) + 1), .bool false, undef, undef, undef, undef, undef, undef, undef, undef, undef, undef, undef, .slice (some ⟨pb, 0, none⟩) (k + 1) cp, .int .i64 ((k : Int) + 1), .int .i64 (k : Int), .tuple #[.agg #[.int .u64 xq, .slice pq lq cq], .agg #[.int .u64 xr, .slice pr lr cr], .bool true], .agg #[.int .u64 x, .slice p l c], .slice (some ⟨pb, 0, none⟩) (k + 1) cp, .int .i64 (k : Int), .pointer (some ⟨pb, k * 2, none⟩), .agg #[.int .u64 px, .slice pp pl pc], .tuple #[.agg #[.int .u64 xq, .slice pq lq cq], .agg #[.int .u64 xr, .slice pr lr cr], .bool true], .agg #[.int .u64 xq, .slice pq lq cq], .agg #[.int .u64 xr, .slice pr lr cr], .bool true, .agg #[.int .u64 xq, .slice pq lq cq], undef, undef, .int .i64 (k : Int), undef, undef, undef, undef, undef, undef, undef, undef], defers := [] } W := by
     intro W u hn ht hp hv hz uu hm kp bl
     rw [← hR]
     have c0 := u.c0
     have c1 := u.c1
     refine wpAnyIn_ready (rs := [1, 2]) (by kernel_rfl) (by simp) ?_
     refine AllReadyIn.cons rfl (fun K hK => ?_) ?_
     · go_simp
       refine hK _ _ ?_
       rw [hR]; exact H1101000 W u hn ht hp hv hz uu hm kp bl
     refine AllReadyIn.cons rfl (fun K hK => ?_) ?_
     · go_simp
       refine hK _ _ ?_
       rw [hR]; exact H1011000 W u hn ht hp hv hz uu hm kp bl
     exact AllReadyIn.nil
   have H1000000 : ∀ (W : World) (u : Var W bq (.int .u64 xq) (.slice pq lq cq)) (hn : IsNat W (.agg #[.int .u64 xq, .slice pq lq cq]) Q) (ht : Tab W) (hp : Pows W pb (k + 1)) (hv : Own W B .u8 5 (.slice pv xs.length cv) xs) (hz : B ≤ W.heap.size) (uu : Var W br (.int .u64 xr) (.slice pr lr cr)) (hm : IsNat W (.agg #[.int .u64 xr, .slice pr lr cr]) Rm) (kp : Keeps (.slice pv xs.length cv) (.slice pv xs.length cv) w W) (bl : Below B w W), R 6 #[true, false, false, false, false, false, false] { tmps := #[.agg #[.int .u64 x, .slice p l c], .slice pv xs.length cv, .slice (some ⟨pb, 0, none⟩) (k + 1) cp, .pointer (some ⟨w.heap.size, 0, none⟩), undef, undef, .slice none 0 0, undef, .int .i64 (k : Int), .pointer (some ⟨bq, 0, none⟩), .pointer (some ⟨br, 0, none⟩), .bool true, .slice (some ⟨pb, 0, none⟩) (k + 1) cp, .int .i64 ((k : Int) + 1), .bool false, undef, undef, undef, undef, undef, undef, undef, undef, undef, undef, undef, .slice (some ⟨pb, 0, none⟩) (k + 1) cp, .int .i64 ((k : Int) + 1), .int .i64 (k : Int), .tuple #[.agg #[.int .u64 xq, .slice pq lq cq], .agg #[.int .u64 xr, .slice pr lr cr], .bool true], .agg #[.int .u64 x, .slice p l c], .slice (some ⟨pb, 0, none⟩) (k + 1) cp, .int .i64 (k : Int), .pointer (some ⟨pb, k * 2, none⟩), .agg #[.int .u64 px, .slice pp pl pc], .tuple #[.agg #[.int .u64 xq, .slice pq lq cq], .agg #[.int .u64 xr, .slice pr lr cr], .bool true], .agg #[.int .u64 xq, .slice pq lq cq], .agg #[.int .u64 xr, .slice pr lr cr], .bool true, .agg #[.int .u64 xq, .slice pq lq cq], undef, undef, undef, undef, undef, undef, undef, undef, undef, undef, undef], defers := [] } W := by
     intro W u hn ht hp hv hz uu hm kp bl
     rw [← hR]
     have c0 := u.c0
     have c1 := u.c1
     refine wpAnyIn_ready (rs := [1, 2, 3]) (by kernel_rfl) (by simp) ?_
     refine AllReadyIn.cons rfl (fun K hK => ?_) ?_
     · go_simp
       refine hK _ _ ?_
       rw [hR]; exact H1100000 W u hn ht hp hv hz uu hm kp bl
     refine AllReadyIn.cons rfl (fun K hK => ?_) ?_
     · go_simp
       refine hK _ _ ?_
       rw [hR]; exact H1010000 W u hn ht hp hv hz uu hm kp bl
     refine AllReadyIn.cons rfl (fun K hK => ?_) ?_
     · go_simp
       refine hK _ _ ?_
       rw [hR]; exact H1001000 W u hn ht hp hv hz uu hm kp bl
     exact AllReadyIn.nil
   have H0111100 : ∀ (W : World) (u : Var W bq (.int .u64 xq) (.slice pq lq cq)) (hn : IsNat W (.agg #[.int .u64 xq, .slice pq lq cq]) Q) (ht : Tab W) (hp : Pows W pb (k + 1)) (hv : Own W B .u8 5 (.slice pv xs.length cv) xs) (hz : B ≤ W.heap.size) (uu : Var W br (.int .u64 xr) (.slice pr lr cr)) (hm : IsNat W (.agg #[.int .u64 xr, .slice pr lr cr]) Rm) (kp : Keeps (.slice pv xs.length cv) (.slice pv xs.length cv) w W) (bl : Below B w W), R 3 #[false, true, true, true, true, false, false] { tmps := #[.agg #[.int .u64 x, .slice p l c], .slice pv xs.length cv, .slice (some ⟨pb, 0, none⟩) (k + 1) cp, .pointer (some ⟨w.heap.size, 0, none⟩), undef, undef, .slice none 0 0, undef, .int .i64 (k : Int), .pointer (some ⟨bq, 0, none⟩), .pointer (some ⟨br, 0, none⟩), .bool true, .slice (some ⟨pb, 0, none⟩) (k + 1) cp, .int .i64 ((k : Int) + 1), .bool false, undef, undef, undef, undef, undef, undef, undef, undef, undef, undef, undef, .slice (some ⟨pb, 0, none⟩) (k + 1) cp, .int .i64 ((k : Int) + 1), .int .i64 (k : Int), .tuple #[.agg #[.int .u64 xq, .slice pq lq cq], .agg #[.int .u64 xr, .slice pr lr cr], .bool true], .agg #[.int .u64 x, .slice p l c], .slice (some ⟨pb, 0, none⟩) (k + 1) cp, .int .i64 (k : Int), .pointer (some ⟨pb, k * 2, none⟩), .agg #[.int .u64 px, .slice pp pl pc], .tuple #[.agg #[.int .u64 xq, .slice pq lq cq], .agg #[.int .u64 xr, .slice pr lr cr], .bool true], .agg #[.int .u64 xq, .slice pq lq cq], .agg #[.int .u64 xr, .slice pr lr cr], .bool true, undef, .slice pv xs.length cv, .slice (some ⟨pb, 0, none⟩) (k + 1) cp, .int .i64 (k : Int), .slice (some ⟨pb, 0, none⟩) k cp, undef, undef, undef, undef, undef, undef, undef], defers := [] } W := by
     intro W u hn ht hp hv hz uu hm kp bl
     rw [← hR]
     have c0 := u.c0
     have c1 := u.c1
     refine wpAnyIn_ready (rs := [0]) (by kernel_rfl) (by simp) ?_
     refine AllReadyIn.cons rfl (fun K hK => ?_) ?_
     · go_simp
       refine hK _ _ ?_
       rw [hR]; exact H1111100 W u hn ht hp hv hz uu hm kp bl
     exact AllReadyIn.nil
   have H0111000 : ∀ (W : World) (u : Var W bq (.int .u64 xq) (.slice pq lq cq)) (hn : IsNat W (.agg #[.int .u64 xq, .slice pq lq cq]) Q) (ht : Tab W) (hp : Pows W pb (k + 1)) (hv : Own W B .u8 5 (.slice pv xs.length cv) xs) (hz : B ≤ W.heap.size) (uu : Var W br (.int .u64 xr) (.slice pr lr cr)) (hm : IsNat W (.agg #[.int .u64 xr, .slice pr lr cr]) Rm) (kp : Keeps (.slice pv xs.length cv) (.slice pv xs.length cv) w W) (bl : Below B w W), R 4 #[false, true, true, true, false, false, false] { tmps := #[.agg #[.int .u64 x, .slice p l c], .slice pv xs.length cv, .slice (some ⟨pb, 0, none⟩) (k + 1) cp, .pointer (some ⟨w.heap.size, 0, none⟩), undef, undef, .slice none 0 0, undef, .int .i64 (k : Int), .pointer (some ⟨bq, 0, none⟩), .pointer (some ⟨br, 0, none⟩), .bool true, .slice (some ⟨pb, 0, none⟩) (k + 1) cp, .int .i64 ((k : Int) + 1), .bool false, undef, undef, undef, undef, undef, undef, undef, undef, undef, undef, undef, .slice (some ⟨pb, 0, none⟩) (k + 1) cp, .int .i64 ((k : Int) + 1), .int .i64 (k : Int), .tuple #[.agg #[.int .u64 xq, .slice pq lq cq], .agg #[.int .u64 xr, .slice pr lr cr], .bool true], .agg #[.int .u64 x, .slice p l c], .slice (some ⟨pb, 0, none⟩) (k + 1) cp, .int .i64 (k : Int), .pointer (some ⟨pb, k * 2, none⟩), .agg #[.int .u64 px, .slice pp pl pc], .tuple #[.agg #[.int .u64 xq, .slice pq lq cq], .agg #[.int .u64 xr, .slice pr lr cr], .bool true], .agg #[.int .u64 xq, .slice pq lq cq], .agg #[.int .u64 xr, .slice pr lr cr], .bool true, undef, .slice pv xs.length cv, .slice (some ⟨pb, 0, none⟩) (k + 1) cp, .int .i64 (k : Int), undef, undef, undef, undef, undef, undef, undef, undef], defers := [] } W := by
     intro W u hn ht hp hv hz uu hm kp bl
     rw [← hR]
     have c0 := u.c0
     have c1 := u.c1
     refine wpAnyIn_ready (rs := [0, 4]) (by kernel_rfl) (by simp) ?_
     refine AllReadyIn.cons rfl (fun K hK => ?_) ?_
     · go_simp
       refine hK _ _ ?_
       rw [hR]; exact H1111000 W u hn ht hp hv hz uu hm kp bl
     refine AllReadyIn.cons rfl (fun K hK => ?_) ?_
     · go_simp
       refine hK _ _ ?_
       rw [hR]; exact H0111100 W u hn ht hp hv hz uu hm kp bl
     exact AllReadyIn.nil
   have H0110000 : ∀ (W : World) (u : Var W bq (.int .u64 xq) (.slice pq lq cq)) (hn : IsNat W (.agg #[.int .u64 xq, .slice pq lq cq]) Q) (ht : Tab W) (hp : Pows W pb (k + 1)) (hv : Own W B .u8 5 (.slice pv xs.length cv) xs) (hz : B ≤ W.heap.size) (uu : Var W br (.int .u64 xr) (.slice pr lr cr)) (hm : IsNat W (.agg #[.int .u64 xr, .slice pr lr cr]) Rm) (kp : Keeps (.slice pv xs.length cv) (.slice pv xs.length cv) w W) (bl : Below B w W), R 5 #[false, true, true, false, false, false, false] { tmps := #[.agg #[.int .u64 x, .slice p l c], .slice pv xs.length cv, .slice (some ⟨pb, 0, none⟩) (k + 1) cp, .pointer (some ⟨w.heap.size, 0, none⟩), undef, undef, .slice none 0 0, undef, .int .i64 (k : Int), .pointer (some ⟨bq, 0, none⟩), .pointer (some ⟨br, 0, none⟩), .bool true, .slice (some ⟨pb, 0, none⟩) (k + 1) cp, .int .i64 ((k : Int) + 1), .bool false, undef, undef, undef, undef, undef, undef, undef, undef, undef, undef, undef, .slice (some ⟨pb, 0, none⟩) (k + 1) cp, .int .i64 ((k : Int) + 1), .int .i64 (k : Int), .tuple #[.agg #[.int .u64 xq, .slice pq lq cq], .agg #[.int .u64 xr, .slice pr lr cr], .bool true], .agg #[.int .u64 x, .slice p l c], .slice (some ⟨pb, 0, none⟩) (k + 1) cp, .int .i64 (k : Int), .pointer (some ⟨pb, k * 2, none⟩), .agg #[.int .u64 px, .slice pp pl pc], .tuple #[.agg #[.int .u64 xq, .slice pq lq cq], .agg #[.int .u64 xr, .slice pr lr cr], .bool true], .agg #[.int .u64 xq, .slice pq lq cq], .agg #[.int .u64 xr, .slice pr lr cr], .bool true, undef, .slice pv xs.length cv, .slice (some ⟨pb, 0, none⟩) (k + 1) cp, undef, undef, undef, undef, undef, undef, undef, undef, undef], defers := [] } W := by
     intro W u hn ht hp hv hz uu hm kp bl
     rw [← hR]
     have c0 := u.c0
     have c1 := u.c1
     refine wpAnyIn_ready (rs := [0, 3]) (by kernel_rfl) (by simp) ?_
     refine AllReadyIn.cons rfl (fun K hK => ?_) ?_
     · go_simp
       refine hK _ _ ?_
       rw [hR]; exact H1110000 W u hn ht hp hv hz uu hm kp bl
     refine AllReadyIn.cons rfl (fun K hK => ?_) ?_
     · go_simp
       refine hK _ _ ?_
       rw [hR]; exact H0111000 W u hn ht hp hv hz uu hm kp bl
     exact AllReadyIn.nil
   have H0101000 : ∀ (W : World) (u : Var W bq (.int .u64 xq) (.slice pq lq cq)) (hn : IsNat W (.agg #[.int .u64 xq, .slice pq lq cq]) Q) (ht : Tab W) (hp : Pows W pb (k + 1)) (hv : Own W B .u8 5 (.slice pv xs.length cv) xs) (hz : B ≤ W.heap.size) (uu : Var W br (.int .u64 xr) (.slice pr lr cr)) (hm : IsNat W (.agg #[.int .u64 xr, .slice pr lr cr]) Rm) (kp : Keeps (.slice pv xs.length cv) (.slice pv xs.length cv) w W) (bl : Below B w W), R 5 #[false, true, false, true, false, false, false] { tmps := #[.agg #[.int .u64 x, .slice p l c], .slice pv xs.length cv, .slice (some ⟨pb, 0, none⟩) (k + 1) cp, .pointer (some ⟨w.heap.size, 0, none⟩), undef, undef, .slice none 0 0, undef, .int .i64 (k : Int), .pointer (some ⟨bq, 0, none⟩), .pointer (some ⟨br, 0, none⟩), .bool true, .slice (some ⟨pb, 0, none⟩) (k + 1) cp, .int .i64 ((k : Int) + 1), .bool false, undef, undef, undef, undef, undef, undef, undef, undef, undef, undef, undef, .slice (some ⟨pb, 0, none⟩) (k + 1) cp, .int .i64 ((k : Int) + 1), .int .i64 (k : Int), .tuple #[.agg #[.int .u64 xq, .slice pq lq cq], .agg #[.int .u64 xr, .slice pr lr cr], .bool true], .agg #[.int .u64 x, .slice p l c], .slice (some ⟨pb, 0, none⟩) (k + 1) cp, .int .i64 (k : Int), .pointer (some ⟨pb, k * 2, none⟩), .agg #[.int .u64 px, .slice pp pl pc], .tuple #[.agg #[.int .u64 xq, .slice pq lq cq], .agg #[.int .u64 xr, .slice pr lr cr], .bool true], .agg #[.int .u64 xq, .slice pq lq cq], .agg #[.int .u64 xr, .slice pr lr cr], .bool true, undef, .slice pv xs.length cv, undef, .int .i64 (k : Int), undef, undef, undef, undef, undef, undef, undef, undef], defers := [] } W := by
     intro W u hn ht hp hv hz uu hm kp bl
     rw [← hR]
     have c0 := u.c0
     have c1 := u.c1
     refine wpAnyIn_ready (rs := [0, 2]) (by kernel_rfl) (by simp) ?_
     refine AllReadyIn.cons rfl (fun K hK => ?_) ?_
     · go_simp
       refine hK _ _ ?_
       rw [hR]; exact H1101000 W u hn ht hp hv hz uu hm kp bl
     refine AllReadyIn.cons rfl (fun K hK => ?_) ?_
     · go_simp
       refine hK _ _ ?_
       rw [hR]; exact H0111000 W u hn ht hp hv hz uu hm kp bl
     exact AllReadyIn.nil
   have H0100000 : ∀ (W : World) (u : Var W bq (.int .u64 xq) (.slice pq lq cq)) (hn : IsNat W (.agg #[.int .u64 xq, .slice pq lq cq]) Q) (ht : Tab W) (hp : Pows W pb (k + 1)) (hv : Own W B .u8 5 (.slice pv xs.length cv) xs) (hz : B ≤ W.heap.size) (uu : Var W br (.int .u64 xr) (.slice pr lr cr)) (hm : IsNat W (.agg #[.int .u64 xr, .slice pr lr cr]) Rm) (kp : Keeps (.slice pv xs.length cv) (.slice pv xs.length cv) w W) (bl : Below B w W), R 6 #[false, true, false, false, false, false, false] { tmps := #[.agg #[.int .u64 x, .slice p l c], .slice pv xs.length cv, .slice (some ⟨pb, 0, none⟩) (k + 1) cp, .pointer (some ⟨w.heap.size, 0, none⟩), undef, undef, .slice none 0 0, undef, .int .i64 (k : Int), .pointer (some ⟨bq, 0, none⟩), .pointer (some ⟨br, 0, none⟩), .bool true, .slice (some ⟨pb, 0, none⟩) (k + 1) cp, .int .i64 ((k : Int) + 1), .bool false, undef, undef, undef, undef, undef, undef, undef, undef, undef, undef, undef, .slice (some ⟨pb, 0, none⟩) (k + 1) cp, .int .i64 ((k : Int) + 1), .int .i64 (k : Int), .tuple #[.agg #[.int .u64 xq, .slice pq lq cq], .agg #[.int .u64 xr, .slice pr lr cr], .bool true], .agg #[.int .u64 x, .slice p l c], .slice (some ⟨pb, 0, none⟩) (k + 1) cp, .int .i64 (k : Int), .pointer (some ⟨pb, k * 2, none⟩), .agg #[.int .u64 px, .slice pp pl pc], .tuple #[.agg #[.int .u64 xq, .slice pq lq cq], .agg #[.int .u64 xr, .slice pr lr cr], .bool true], .agg #[.int .u64 xq, .slice pq lq cq], .agg #[.int .u64 xr, .slice pr lr cr], .bool true, undef, .slice pv xs.length cv, undef, undef, undef, undef, undef, undef, undef, undef, undef, undef], defers := [] } W := by
     intro W u hn ht hp hv hz uu hm kp bl
     rw [← hR]
     have c0 := u.c0
     have c1 := u.c1
     refine wpAnyIn_ready (rs := [0, 2, 3]) (by kernel_rfl) (by simp) ?_
     refine AllReadyIn.cons rfl (fun K hK => ?_) ?_
     · go_simp
       refine hK _ _ ?_
       rw [hR]; exact H1100000 W u hn ht hp hv hz uu hm kp bl
     refine AllReadyIn.cons rfl (fun K hK => ?_) ?_
     · go_simp
       refine hK _ _ ?_
       rw [hR]; exact H0110000 W u hn ht hp hv hz uu hm kp bl
     refine AllReadyIn.cons rfl (fun K hK => ?_) ?_
     · go_simp
       refine hK _ _ ?_
       rw [hR]; exact H0101000 W u hn ht hp hv hz uu hm kp bl
     exact AllReadyIn.nil
   have H0011100 : ∀ (W : World) (u : Var W bq (.int .u64 xq) (.slice pq lq cq)) (hn : IsNat W (.agg #[.int .u64 xq, .slice pq lq cq]) Q) (ht : Tab W) (hp : Pows W pb (k + 1)) (hv : Own W B .u8 5 (.slice pv xs.length cv) xs) (hz : B ≤ W.heap.size) (uu : Var W br (.int .u64 xr) (.slice pr lr cr)) (hm : IsNat W (.agg #[.int .u64 xr, .slice pr lr cr]) Rm) (kp : Keeps (.slice pv xs.length cv) (.slice pv xs.length cv) w W) (bl : Below B w W), R 4 #[false, false, true, true, true, false, false] { tmps := #[.agg #[.int .u64 x, .slice p l c], .slice pv xs.length cv, .slice (some ⟨pb, 0, none⟩) (k + 1) cp, .pointer (some ⟨w.heap.size, 0, none⟩), undef, undef, .slice none 0 0, undef, .int .i64 (k : Int), .pointer (some ⟨bq, 0, none⟩), .pointer (some ⟨br, 0, none⟩), .bool true, .slice (some ⟨pb, 0, none⟩) (k + 1) cp, .int .i64 ((k : Int) + 1), .bool false, undef, undef, undef, undef, undef, undef, undef, undef, undef, undef, undef, .slice (some ⟨pb, 0, none⟩) (k + 1) cp, .int .i64 ((k : Int) + 1), .int .i64 (k : Int), .tuple #[.agg #[.int .u64 xq, .slice pq lq cq], .agg #[.int .u64 xr, .slice pr lr cr], .bool true], .agg #[.int .u64 x, .slice p l c], .slice (some ⟨pb, 0, none⟩) (k + 1) cp, .int .i64 (k : Int), .pointer (some ⟨pb, k * 2, none⟩), .agg #[.int .u64 px, .slice pp pl pc], .tuple #[.agg #[.int .u64 xq, .slice pq lq cq], .agg #[.int .u64 xr, .slice pr lr cr], .bool true], .agg #[.int .u64 xq, .slice pq lq cq], .agg #[.int .u64 xr, .slice pr lr cr], .bool true, undef, undef, .slice (some ⟨pb, 0, none⟩) (k + 1) cp, .int .i64 (k : Int), .slice (some ⟨pb, 0, none⟩) k cp, undef, undef, undef, undef, undef, undef, undef], defers := [] } W := by
     intro W u hn ht hp hv hz uu hm kp bl
     rw [← hR]
     have c0 := u.c0
     have c1 := u.c1
     refine wpAnyIn_ready (rs := [0, 1]) (by kernel_rfl) (by simp) ?_
     refine AllReadyIn.cons rfl (fun K hK => ?_) ?_
     · go_simp
       refine hK _ _ ?_
       rw [hR]; exact H1011100 W u hn ht hp hv hz uu hm kp bl
     refine AllReadyIn.cons rfl (fun K hK => ?_) ?_
     · go_simp
       refine hK _ _ ?_
       rw [hR]; exact H0111100 W u hn ht hp hv hz uu hm kp bl
     exact AllReadyIn.nil
   have H0011000 : ∀ (W : World) (u : Var W bq (.int .u64 xq) (.slice pq lq cq)) (hn : IsNat W (.agg #[.int .u64 xq, .slice pq lq cq]) Q) (ht : Tab W) (hp : Pows W pb (k + 1)) (hv : Own W B .u8 5 (.slice pv xs.length cv) xs) (hz : B ≤ W.heap.size) (uu : Var W br (.int .u64 xr) (.slice pr lr cr)) (hm : IsNat W (.agg #[.int .u64 xr, .slice pr lr cr]) Rm) (kp : Keeps (.slice pv xs.length cv) (.slice pv xs.length cv) w W) (bl : Below B w W), R 5 #[false, false, true, true, false, false, false] { tmps := #[.agg #[.int .u64 x, .slice p l c], .slice pv xs.length cv, .slice (some ⟨pb, 0, none⟩) (k + 1) cp, .pointer (some ⟨w.heap.size, 0, none⟩), undef, undef, .slice none 0 0, undef, .int .i64 (k : Int), .pointer (some ⟨bq, 0, none⟩), .pointer (some ⟨br, 0, none⟩), .bool true, .slice (some ⟨pb, 0, none⟩) (k + 1) cp, .int .i64 ((k : Int) + 1), .bool false, undef, undef, undef, undef, undef, undef, undef, undef, undef, undef, undef, .slice (some ⟨pb, 0, none⟩) (k + 1) cp, .int .i64 ((k : Int) + 1), .int .i64 (k : Int), .tuple #[.agg #[.int .u64 xq, .slice pq lq cq], .agg #[.int .u64 xr, .slice pr lr cr], .bool true], .agg #[.int .u64 x, .slice p l c], .slice (some ⟨pb, 0, none⟩) (k + 1) cp, .int .i64 (k : Int), .pointer (some ⟨pb, k * 2, none⟩), .agg #[.int .u64 px, .slice pp pl pc], .tuple #[.agg #[.int .u64 xq, .slice pq lq cq], .agg #[.int .u64 xr, .slice pr lr cr], .bool true], .agg #[.int .u64 xq, .slice pq lq cq], .agg #[.int .u64 xr, .slice pr lr cr], .bool true, undef, undef, .slice (some ⟨pb, 0, none⟩) (k + 1) cp, .int .i64 (k : Int), undef, undef, undef, undef, undef, undef, undef, undef], defers := [] } W := by
     intro W u hn ht hp hv hz uu hm kp bl
     rw [← hR]
     have c0 := u.c0
     have c1 := u.c1
     refine wpAnyIn_ready (rs := [0, 1, 4]) (by kernel_rfl) (by simp) ?_
     refine AllReadyIn.cons rfl (fun K hK => ?_) ?_
     · go_simp
       refine hK _ _ ?_
       rw [hR]; exact H1011000 W u hn ht hp hv hz uu hm kp bl
     refine AllReadyIn.cons rfl (fun K hK => ?_) ?_
     · go_simp
       refine hK _ _ ?_
       rw [hR]; exact H0111000 W u hn ht hp hv hz uu hm kp bl
     refine AllReadyIn.cons rfl (fun K hK => ?_) ?_
     · go_simp
       refine hK _ _ ?_
       rw [hR]; exact H0011100 W u hn ht hp hv hz uu hm kp bl
     exact AllReadyIn.nil
   have H0010000 : ∀ (W : World) (u : Var W bq (.int .u64 xq) (.slice pq lq cq)) (hn : IsNat W (.agg #[.int .u64 xq, .slice pq lq cq]) Q) (ht : Tab W) (hp : Pows W pb (k + 1)) (hv : Own W B .u8 5 (.slice pv xs.length cv) xs) (hz : B ≤ W.heap.size) (uu : Var W br (.int .u64 xr) (.slice pr lr cr)) (hm : IsNat W (.agg #[.int .u64 xr, .slice pr lr cr]) Rm) (kp : Keeps (.slice pv xs.length cv) (.slice pv xs.length cv) w W) (bl : Below B w W), R 6 #[false, false, true, false, false, false, false] { tmps := #[.agg #[.int .u64 x, .slice p l c], .slice pv xs.length cv, .slice (some ⟨pb, 0, none⟩) (k + 1) cp, .pointer (some ⟨w.heap.size, 0, none⟩), undef, undef, .slice none 0 0, undef, .int .i64 (k : Int), .pointer (some ⟨bq, 0, none⟩), .pointer (some ⟨br, 0, none⟩), .bool true, .slice (some ⟨pb, 0, none⟩) (k + 1) cp, .int .i64 ((k : Int) + 1), .bool false, undef, undef, undef, undef, undef, undef, undef, undef, undef, undef, undef, .slice (some ⟨pb, 0, none⟩) (k + 1) cp, .int .i64 ((k : Int) + 1), .int .i64 (k : Int), .tuple #[.agg #[.int .u64 xq, .slice pq lq cq], .agg #[.int .u64 xr, .slice pr lr cr], .bool true], .agg #[.int .u64 x, .slice p l c], .slice (some ⟨pb, 0, none⟩) (k + 1) cp, .int .i64 (k : Int), .pointer (some ⟨pb, k * 2, none⟩), .agg #[.int .u64 px, .slice pp pl pc], .tuple #[.agg #[.int .u64 xq, .slice pq lq cq], .agg #[.int .u64 xr, .slice pr lr cr], .bool true], .agg #[.int .u64 xq, .slice pq lq cq], .agg #[.int .u64 xr, .slice pr lr cr], .bool true, undef, undef, .slice (some ⟨pb, 0, none⟩) (k + 1) cp, undef, undef, undef, undef, undef, undef, undef, undef, undef], defers := [] } W := by
     intro W u hn ht hp hv hz uu hm kp bl
     rw [← hR]
     have c0 := u.c0
     have c1 := u.c1
     refine wpAnyIn_ready (rs := [0, 1, 3]) (by kernel_rfl) (by simp) ?_
     refine AllReadyIn.cons rfl (fun K hK => ?_) ?_
     · go_simp
       refine hK _ _ ?_
       rw [hR]; exact H1010000 W u hn ht hp hv hz uu hm kp bl
     refine AllReadyIn.cons rfl (fun K hK => ?_) ?_
     · go_simp
       refine hK _ _ ?_
       rw [hR]; exact H0110000 W u hn ht hp hv hz uu hm kp bl
     refine AllReadyIn.cons rfl (fun K hK => ?_) ?_
     · go_simp
       refine hK _ _ ?_
       rw [hR]; exact H0011000 W u hn ht hp hv hz uu hm kp bl
     exact AllReadyIn.nil
   have H0001000 : ∀ (W : World) (u : Var W bq (.int .u64 xq) (.slice pq lq cq)) (hn : IsNat W (.agg #[.int .u64 xq, .slice pq lq cq]) Q) (ht : Tab W) (hp : Pows W pb (k + 1)) (hv : Own W B .u8 5 (.slice pv xs.length cv) xs) (hz : B ≤ W.heap.size) (uu : Var W br (.int .u64 xr) (.slice pr lr cr)) (hm : IsNat W (.agg #[.int .u64 xr, .slice pr lr cr]) Rm) (kp : Keeps (.slice pv xs.length cv) (.slice pv xs.length cv) w W) (bl : Below B w W), R 6 #[false, false, false, true, false, false, false] { tmps := #[.agg #[.int .u64 x, .slice p l c], .slice pv xs.length cv, .slice (some ⟨pb, 0, none⟩) (k + 1) cp, .pointer (some ⟨w.heap.size, 0, none⟩), undef, undef, .slice none 0 0, undef, .int .i64 (k : Int), .pointer (some ⟨bq, 0, none⟩), .pointer (some ⟨br, 0, none⟩), .bool true, .slice (some ⟨pb, 0, none⟩) (k + 1) cp, .int .i64 ((k : Int) + 1), .bool false, undef, undef, undef, undef, undef, undef, undef, undef, undef, undef, undef, .slice (some ⟨pb, 0, none⟩) (k + 1) cp, .int .i64 ((k : Int) + 1), .int .i64 (k : Int), .tuple #[.agg #[.int .u64 xq, .slice pq lq cq], .agg #[.int .u64 xr, .slice pr lr cr], .bool true], .agg #[.int .u64 x, .slice p l c], .slice (some ⟨pb, 0, none⟩) (k + 1) cp, .int .i64 (k : Int), .pointer (some ⟨pb, k * 2, none⟩), .agg #[.int .u64 px, .slice pp pl pc], .tuple #[.agg #[.int .u64 xq, .slice pq lq cq], .agg #[.int .u64 xr, .slice pr lr cr], .bool true], .agg #[.int .u64 xq, .slice pq lq cq], .agg #[.int .u64 xr, .slice pr lr cr], .bool true, undef, undef, undef, .int .i64 (k : Int), undef, undef, undef, undef, undef, undef, undef, undef], defers := [] } W := by
     intro W u hn ht hp hv hz uu hm kp bl
     rw [← hR]
     have c0 := u.c0
     have c1 := u.c1
     refine wpAnyIn_ready (rs := [0, 1, 2]) (by kernel_rfl) (by simp) ?_
     refine AllReadyIn.cons rfl (fun K hK => ?_) ?_
     · go_simp
       refine hK _ _ ?_
       rw [hR]; exact H1001000 W u hn ht hp hv hz uu hm kp bl
     refine AllReadyIn.cons rfl (fun K hK => ?_) ?_
     · go_simp
       refine hK _ _ ?_
       rw [hR]; exact H0101000 W u hn ht hp hv hz uu hm kp bl
     refine AllReadyIn.cons rfl (fun K hK => ?_) ?_
     · go_simp
       refine hK _ _ ?_
       rw [hR]; exact H0011000 W u hn ht hp hv hz uu hm kp bl
     exact AllReadyIn.nil
   have H0000000 : ∀ (W : World) (u : Var W bq (.int .u64 xq) (.slice pq lq cq)) (hn : IsNat W (.agg #[.int .u64 xq, .slice pq lq cq]) Q) (ht : Tab W) (hp : Pows W pb (k + 1)) (hv : Own W B .u8 5 (.slice pv xs.length cv) xs) (hz : B ≤ W.heap.size) (uu : Var W br (.int .u64 xr) (.slice pr lr cr)) (hm : IsNat W (.agg #[.int .u64 xr, .slice pr lr cr]) Rm) (kp : Keeps (.slice pv xs.length cv) (.slice pv xs.length cv) w W) (bl : Below B w W), R 7 #[false, false, false, false, false, false, false] { tmps := #[.agg #[.int .u64 x, .slice p l c], .slice pv xs.length cv, .slice (some ⟨pb, 0, none⟩) (k + 1) cp, .pointer (some ⟨w.heap.size, 0, none⟩), undef, undef, .slice none 0 0, undef, .int .i64 (k : Int), .pointer (some ⟨bq, 0, none⟩), .pointer (some ⟨br, 0, none⟩), .bool true, .slice (some ⟨pb, 0, none⟩) (k + 1) cp, .int .i64 ((k : Int) + 1), .bool false, undef, undef, undef, undef, undef, undef, undef, undef, undef, undef, undef, .slice (some ⟨pb, 0, none⟩) (k + 1) cp, .int .i64 ((k : Int) + 1), .int .i64 (k : Int), .tuple #[.agg #[.int .u64 xq, .slice pq lq cq], .agg #[.int .u64 xr, .slice pr lr cr], .bool true], .agg #[.int .u64 x, .slice p l c], .slice (some ⟨pb, 0, none⟩) (k + 1) cp, .int .i64 (k : Int), .pointer (some ⟨pb, k * 2, none⟩), .agg #[.int .u64 px, .slice pp pl pc], .tuple #[.agg #[.int .u64 xq, .slice pq lq cq], .agg #[.int .u64 xr, .slice pr lr cr], .bool true], .agg #[.int .u64 xq, .slice pq lq cq], .agg #[.int .u64 xr, .slice pr lr cr], .bool true, undef, undef, undef, undef, undef, undef, undef, undef, undef, undef, undef, undef], defers := [] } W := by
     intro W u hn ht hp hv hz uu hm kp bl
     rw [← hR]
     have c0 := u.c0
     have c1 := u.c1
     refine wpAnyIn_ready (rs := [0, 1, 2, 3]) (by kernel_rfl) (by simp) ?_
     refine AllReadyIn.cons rfl (fun K hK => ?_) ?_
     · go_simp
       refine hK _ _ ?_
       rw [hR]; exact H1000000 W u hn ht hp hv hz uu hm kp bl
     refine AllReadyIn.cons rfl (fun K hK => ?_) ?_
     · go_simp
       refine hK _ _ ?_
       rw [hR]; exact H0100000 W u hn ht hp hv hz uu hm kp bl
     refine AllReadyIn.cons rfl (fun K hK => ?_) ?_
     · go_simp
       refine hK _ _ ?_
       rw [hR]; exact H0010000 W u hn ht hp hv hz uu hm kp bl
     refine AllReadyIn.cons rfl (fun K hK => ?_) ?_
     · go_simp
       refine hK _ _ ?_
       rw [hR]; exact H0001000 W u hn ht hp hv hz uu hm kp bl
     exact AllReadyIn.nil
   exact H0000000 W.drew hbq hz htabW hpowW hownW hzW hbr hs (Keeps.below hbw.drew) (hbw.drew.mono hB)
 have H111111111111110 : ∀ (W : World) (acc : Below w1.heap.size w1 W) (xq : Int) (pq : Option Addr) (lq cq : Nat) (xr : Int) (pr : Option Addr) (lr cr : Nat) (hz : IsNat W (.agg #[.int .u64 xq, .slice pq lq cq]) Q) (hs : IsNat W (.agg #[.int .u64 xr, .slice pr lr cr]) Rm) (bq : Nat) (hbq : Var W bq (.int .u64 xq) (.slice pq lq cq)) (hbqn : w1.heap.size ≤ bq) (br : Nat) (hbr : Var W br (.int .u64 xr) (.slice pr lr cr)) (hbrn : w1.heap.size ≤ br) (hcd : bq ≠ br), R 1 #[true, true, true, true, true, true, true, true, true, true, true, true, true, true, false] { tmps := #[.agg #[.int .u64 x, .slice p l c], .slice pv xs.length cv, .slice (some ⟨pb, 0, none⟩) (k + 1) cp, .pointer (some ⟨w.heap.size, 0, none⟩), undef, undef, .slice none 0 0, undef, .int .i64 (k : Int), .pointer (some ⟨bq, 0, none⟩), .pointer (some ⟨br, 0, none⟩), undef, .slice (some ⟨pb, 0, none⟩) (k + 1) cp, .int .i64 ((k : Int) + 1), .bool false, undef, undef, undef, undef, undef, undef, undef, undef, undef, undef, undef, .slice (some ⟨pb, 0, none⟩) (k + 1) cp, .int .i64 ((k : Int) + 1), .int .i64 (k : Int), .tuple #[.agg #[.int .u64 xq, .slice pq lq cq], .agg #[.int .u64 xr, .slice pr lr cr], .bool true], .agg #[.int .u64 x, .slice p l c], .slice (some ⟨pb, 0, none⟩) (k + 1) cp, .int .i64 (k : Int), .pointer (some ⟨pb, k * 2, none⟩), .agg #[.int .u64 px, .slice pp pl pc], .tuple #[.agg #[.int .u64 xq, .slice pq lq cq], .agg #[.int .u64 xr, .slice pr lr cr], .bool true], .agg #[.int .u64 xq, .slice pq lq cq], .agg #[.int .u64 xr, .slice pr lr cr], .bool true, undef, undef, undef, undef, undef, undef, undef, undef, undef, undef, undef, undef], defers := [] } W := by
   intro W acc xq pq lq cq xr pr lr cr hz hs bq hbq hbqn br hbr hbrn hcd
   rw [← hR]
   refine wpAnyIn_ready (rs := [14]) (by kernel_rfl) (by simp) ?_
   refine AllReadyIn.cons rfl (fun K hK => ?_) ?_
   · go_simp
     refine hK _ _ ?_
     rw [hR]; exact H111111111111111 W acc xq pq lq cq xr pr lr cr hz hs bq hbq hbqn br hbr hbrn hcd
   exact AllReadyIn.nil
 have H111111111111100 : ∀ (W : World) (acc : Below w1.heap.size w1 W) (xq : Int) (pq : Option Addr) (lq cq : Nat) (xr : Int) (pr : Option Addr) (lr cr : Nat) (hz : IsNat W (.agg #[.int .u64 xq, .slice pq lq cq]) Q) (hs : IsNat W (.agg #[.int .u64 xr, .slice pr lr cr]) Rm) (bq : Nat) (hbq : Var W bq (.int .u64 xq) (.slice pq lq cq)) (hbqn : w1.heap.size ≤ bq) (br : Nat) (hbr : Var W br (.int .u64 0) (.slice none 0 0)) (hbrn : w1.heap.size ≤ br) (hcd : bq ≠ br), R 2 #[true, true, true, true, true, true, true, true, true, true, true, true, true, false, false] { tmps := #[.agg #[.int .u64 x, .slice p l c], .slice pv xs.length cv, .slice (some ⟨pb, 0, none⟩) (k + 1) cp, .pointer (some ⟨w.heap.size, 0, none⟩), undef, undef, .slice none 0 0, undef, .int .i64 (k : Int), .pointer (some ⟨bq, 0, none⟩), .pointer (some ⟨br, 0, none⟩), undef, .slice (some ⟨pb, 0, none⟩) (k + 1) cp, .int .i64 ((k : Int) + 1), .bool false, undef, undef, undef, undef, undef, undef, undef, undef, undef, undef, undef, .slice (some ⟨pb, 0, none⟩) (k + 1) cp, .int .i64 ((k : Int) + 1), .int .i64 (k : Int), .tuple #[.agg #[.int .u64 xq, .slice pq lq cq], .agg #[.int .u64 xr, .slice pr lr cr], .bool true], .agg #[.int .u64 x, .slice p l c], .slice (some ⟨pb, 0, none⟩) (k + 1) cp, .int .i64 (k : Int), .pointer (some ⟨pb, k * 2, none⟩), .agg #[.int .u64 px, .slice pp pl pc], .tuple #[.agg #[.int .u64 xq, .slice pq lq cq], .agg #[.int .u64 xr, .slice pr lr cr], .bool true], .agg #[.int .u64 xq, .slice pq lq cq], .agg #[.int .u64 xr, .slice pr lr cr], .bool true, undef, undef, undef, undef, undef, undef, undef, undef, undef, undef, undef, undef], defers := [] } W := by
   intro W acc xq pq lq cq xr pr lr cr hz hs bq hbq hbqn br hbr hbrn hcd
   rw [← hR]
   have kbr0 := hbr.c0
   have kbr1 := hbr.c1
   have fbr0 := hbr.free 0
   have fbr1 := hbr.free 1
   refine wpAnyIn_ready (rs := [13]) (by kernel_rfl) (by simp) ?_
   refine AllReadyIn.cons rfl (fun K hK => ?_) ?_
   · go_simp
     refine hK _ _ ?_
     rw [hR]; exact H111111111111110 ((W.setCell ⟨br, 0, none⟩ (.int .u64 xr)).setCell ⟨br, 1, none⟩ (.slice pr lr cr)) (below_two acc hbrn _ _) xq pq lq cq xr pr lr cr (hz.two hbr _ _) (hs.two hbr _ _) bq ((hbq.other hcd _).other hcd _) hbqn br (hbr.set (.int .u64 xr) pr lr cr) hbrn hcd
   exact AllReadyIn.nil
 have H111111111111000 : ∀ (W : World) (acc : Below w1.heap.size w1 W) (xq : Int) (pq : Option Addr) (lq cq : Nat) (xr : Int) (pr : Option Addr) (lr cr : Nat) (hz : IsNat W (.agg #[.int .u64 xq, .slice pq lq cq]) Q) (hs : IsNat W (.agg #[.int .u64 xr, .slice pr lr cr]) Rm) (bq : Nat) (hbq : Var W bq (.int .u64 0) (.slice none 0 0)) (hbqn : w1.heap.size ≤ bq) (br : Nat) (hbr : Var W br (.int .u64 0) (.slice none 0 0)) (hbrn : w1.heap.size ≤ br) (hcd : bq ≠ br), R 3 #[true, true, true, true, true, true, true, true, true, true, true, true, false, false, false] { tmps := #[.agg #[.int .u64 x, .slice p l c], .slice pv xs.length cv, .slice (some ⟨pb, 0, none⟩) (k + 1) cp, .pointer (some ⟨w.heap.size, 0, none⟩), undef, undef, .slice none 0 0, undef, .int .i64 (k : Int), .pointer (some ⟨bq, 0, none⟩), .pointer (some ⟨br, 0, none⟩), undef, .slice (some ⟨pb, 0, none⟩) (k + 1) cp, .int .i64 ((k : Int) + 1), .bool false, undef, undef, undef, undef, undef, undef, undef, undef, undef, undef, undef, .slice (some ⟨pb, 0, none⟩) (k + 1) cp, .int .i64 ((k : Int) + 1), .int .i64 (k : Int), .tuple #[.agg #[.int .u64 xq, .slice pq lq cq], .agg #[.int .u64 xr, .slice pr lr cr], .bool true], .agg #[.int .u64 x, .slice p l c], .slice (some ⟨pb, 0, none⟩) (k + 1) cp, .int .i64 (k : Int), .pointer (some ⟨pb, k * 2, none⟩), .agg #[.int .u64 px, .slice pp pl pc], .tuple #[.agg #[.int .u64 xq, .slice pq lq cq], .agg #[.int .u64 xr, .slice pr lr cr], .bool true], .agg #[.int .u64 xq, .slice pq lq cq], .agg #[.int .u64 xr, .slice pr lr cr], .bool true, undef, undef, undef, undef, undef, undef, undef, undef, undef, undef, undef, undef], defers := [] } W := by
   intro W acc xq pq lq cq xr pr lr cr hz hs bq hbq hbqn br hbr hbrn hcd
   rw [← hR]
   have kbq0 := hbq.c0
   have kbq1 := hbq.c1
   have fbq0 := hbq.free 0
   have fbq1 := hbq.free 1
   refine wpAnyIn_ready (rs := [12]) (by kernel_rfl) (by simp) ?_
   refine AllReadyIn.cons rfl (fun K hK => ?_) ?_
   · go_simp
     refine hK _ _ ?_
     rw [hR]; exact H111111111111100 ((W.setCell ⟨bq, 0, none⟩ (.int .u64 xq)).setCell ⟨bq, 1, none⟩ (.slice pq lq cq)) (below_two acc hbqn _ _) xq pq lq cq xr pr lr cr (hz.two hbq _ _) (hs.two hbq _ _) bq (hbq.set (.int .u64 xq) pq lq cq) hbqn br ((hbr.other hcd.symm _).other hcd.symm _) hbrn hcd
   exact AllReadyIn.nil
 have H111111111110000 : ∀ (W : World) (acc : Below w1.heap.size w1 W) (xq : Int) (pq : Option Addr) (lq cq : Nat) (xr : Int) (pr : Option Addr) (lr cr : Nat) (hz : IsNat W (.agg #[.int .u64 xq, .slice pq lq cq]) Q) (hs : IsNat W (.agg #[.int .u64 xr, .slice pr lr cr]) Rm) (bq : Nat) (hbq : Var W bq (.int .u64 0) (.slice none 0 0)) (hbqn : w1.heap.size ≤ bq), R 4 #[true, true, true, true, true, true, true, true, true, true, true, false, false, false, false] { tmps := #[.agg #[.int .u64 x, .slice p l c], .slice pv xs.length cv, .slice (some ⟨pb, 0, none⟩) (k + 1) cp, .pointer (some ⟨w.heap.size, 0, none⟩), undef, undef, .slice none 0 0, undef, .int .i64 (k : Int), .pointer (some ⟨bq, 0, none⟩), undef, undef, .slice (some ⟨pb, 0, none⟩) (k + 1) cp, .int .i64 ((k : Int) + 1), .bool false, undef, undef, undef, undef, undef, undef, undef, undef, undef, undef, undef, .slice (some ⟨pb, 0, none⟩) (k + 1) cp, .int .i64 ((k : Int) + 1), .int .i64 (k : Int), .tuple #[.agg #[.int .u64 xq, .slice pq lq cq], .agg #[.int .u64 xr, .slice pr lr cr], .bool true], .agg #[.int .u64 x, .slice p l c], .slice (some ⟨pb, 0, none⟩) (k + 1) cp, .int .i64 (k : Int), .pointer (some ⟨pb, k * 2, none⟩), .agg #[.int .u64 px, .slice pp pl pc], .tuple #[.agg #[.int .u64 xq, .slice pq lq cq], .agg #[.int .u64 xr, .slice pr lr cr], .bool true], .agg #[.int .u64 xq, .slice pq lq cq], .agg #[.int .u64 xr, .slice pr lr cr], .bool true, undef, undef, undef, undef, undef, undef, undef, undef, undef, undef, undef, undef], defers := [] } W := by
   intro W acc xq pq lq cq xr pr lr cr hz hs bq hbq hbqn
   rw [← hR]
   refine wpAnyIn_ready (rs := [11]) (by kernel_rfl) (by simp) ?_
   refine AllReadyIn.cons rfl (fun K hK => ?_) ?_
   · go_simp
     refine hK _ _ ?_
     rw [hR]; exact H111111111111000 (W.alloc (.cells #[.int .u64 0, .slice none 0 0] 25)) (acc.alloc acc.size _) xq pq lq cq xr pr lr cr (hz.below ((Below.refl _ W).alloc (Nat.le_refl _) _)) (hs.below ((Below.refl _ W).alloc (Nat.le_refl _) _)) bq (hbq.alloc _) hbqn W.heap.size (Var.new W W.heap.size _ _ _ _ rfl) acc.size (Nat.ne_of_lt hbq.lt)
   exact AllReadyIn.nil
 have H111111111101000 : ∀ (W : World) (acc : Below w1.heap.size w1 W) (xq : Int) (pq : Option Addr) (lq cq : Nat) (xr : Int) (pr : Option Addr) (lr cr : Nat) (hz : IsNat W (.agg #[.int .u64 xq, .slice pq lq cq]) Q) (hs : IsNat W (.agg #[.int .u64 xr, .slice pr lr cr]) Rm) (br : Nat) (hbr : Var W br (.int .u64 0) (.slice none 0 0)) (hbrn : w1.heap.size ≤ br), R 4 #[true, true, true, true, true, true, true, true, true, true, false, true, false, false, false] { tmps := #[.agg #[.int .u64 x, .slice p l c], .slice pv xs.length cv, .slice (some ⟨pb, 0, none⟩) (k + 1) cp, .pointer (some ⟨w.heap.size, 0, none⟩), undef, undef, .slice none 0 0, undef, .int .i64 (k : Int), undef, .pointer (some ⟨br, 0, none⟩), undef, .slice (some ⟨pb, 0, none⟩) (k + 1) cp, .int .i64 ((k : Int) + 1), .bool false, undef, undef, undef, undef, undef, undef, undef, undef, undef, undef, undef, .slice (some ⟨pb, 0, none⟩) (k + 1) cp, .int .i64 ((k : Int) + 1), .int .i64 (k : Int), .tuple #[.agg #[.int .u64 xq, .slice pq lq cq], .agg #[.int .u64 xr, .slice pr lr cr], .bool true], .agg #[.int .u64 x, .slice p l c], .slice (some ⟨pb, 0, none⟩) (k + 1) cp, .int .i64 (k : Int), .pointer (some ⟨pb, k * 2, none⟩), .agg #[.int .u64 px, .slice pp pl pc], .tuple #[.agg #[.int .u64 xq, .slice pq lq cq], .agg #[.int .u64 xr, .slice pr lr cr], .bool true], .agg #[.int .u64 xq, .slice pq lq cq], .agg #[.int .u64 xr, .slice pr lr cr], .bool true, undef, undef, undef, undef, undef, undef, undef, undef, undef, undef, undef, undef], defers := [] } W := by
   intro W acc xq pq lq cq xr pr lr cr hz hs br hbr hbrn
   rw [← hR]
   refine wpAnyIn_ready (rs := [10]) (by kernel_rfl) (by simp) ?_
   refine AllReadyIn.cons rfl (fun K hK => ?_) ?_
   · go_simp
     refine hK _ _ ?_
     rw [hR]; exact H111111111111000 (W.alloc (.cells #[.int .u64 0, .slice none 0 0] 25)) (acc.alloc acc.size _) xq pq lq cq xr pr lr cr (hz.below ((Below.refl _ W).alloc (Nat.le_refl _) _)) (hs.below ((Below.refl _ W).alloc (Nat.le_refl _) _)) W.heap.size (Var.new W W.heap.size _ _ _ _ rfl) acc.size br (hbr.alloc _) hbrn (Nat.ne_of_gt hbr.lt)
   exact AllReadyIn.nil
 have H111111111100000 : ∀ (W : World) (acc : Below w1.heap.size w1 W) (xq : Int) (pq : Option Addr) (lq cq : Nat) (xr : Int) (pr : Option Addr) (lr cr : Nat) (hz : IsNat W (.agg #[.int .u64 xq, .slice pq lq cq]) Q) (hs : IsNat W (.agg #[.int .u64 xr, .slice pr lr cr]) Rm), R 5 #[true, true, true, true, true, true, true, true, true, true, false, false, false, false, false] { tmps := #[.agg #[.int .u64 x, .slice p l c], .slice pv xs.length cv, .slice (some ⟨pb, 0, none⟩) (k + 1) cp, .pointer (some ⟨w.heap.size, 0, none⟩), undef, undef, .slice none 0 0, undef, .int .i64 (k : Int), undef, undef, undef, .slice (some ⟨pb, 0, none⟩) (k + 1) cp, .int .i64 ((k : Int) + 1), .bool false, undef, undef, undef, undef, undef, undef, undef, undef, undef, undef, undef, .slice (some ⟨pb, 0, none⟩) (k + 1) cp, .int .i64 ((k : Int) + 1), .int .i64 (k : Int), .tuple #[.agg #[.int .u64 xq, .slice pq lq cq], .agg #[.int .u64 xr, .slice pr lr cr], .bool true], .agg #[.int .u64 x, .slice p l c], .slice (some ⟨pb, 0, none⟩) (k + 1) cp, .int .i64 (k : Int), .pointer (some ⟨pb, k * 2, none⟩), .agg #[.int .u64 px, .slice pp pl pc], .tuple #[.agg #[.int .u64 xq, .slice pq lq cq], .agg #[.int .u64 xr, .slice pr lr cr], .bool true], .agg #[.int .u64 xq, .slice pq lq cq], .agg #[.int .u64 xr, .slice pr lr cr], .bool true, undef, undef, undef, undef, undef, undef, undef, undef, undef, undef, undef, undef], defers := [] } W := by
   intro W acc xq pq lq cq xr pr lr cr hz hs
   rw [← hR]
   refine wpAnyIn_ready (rs := [10, 11]) (by kernel_rfl) (by simp) ?_
   refine AllReadyIn.cons rfl (fun K hK => ?_) ?_
   · go_simp
     refine hK _ _ ?_
     rw [hR]; exact H111111111110000 (W.alloc (.cells #[.int .u64 0, .slice none 0 0] 25)) (acc.alloc acc.size _) xq pq lq cq xr pr lr cr (hz.below ((Below.refl _ W).alloc (Nat.le_refl _) _)) (hs.below ((Below.refl _ W).alloc (Nat.le_refl _) _)) W.heap.size (Var.new W W.heap.size _ _ _ _ rfl) acc.size
   refine AllReadyIn.cons rfl (fun K hK => ?_) ?_
   · go_simp
     refine hK _ _ ?_
     rw [hR]; exact H111111111101000 (W.alloc (.cells #[.int .u64 0, .slice none 0 0] 25)) (acc.alloc acc.size _) xq pq lq cq xr pr lr cr (hz.below ((Below.refl _ W).alloc (Nat.le_refl _) _)) (hs.below ((Below.refl _ W).alloc (Nat.le_refl _) _)) W.heap.size (Var.new W W.heap.size _ _ _ _ rfl) acc.size
   exact AllReadyIn.nil
 have H111111111011110 : ∀ (W : World) (acc : Below w1.heap.size w1 W) (xq : Int) (pq : Option Addr) (lq cq : Nat) (xr : Int) (pr : Option Addr) (lr cr : Nat) (hz : IsNat W (.agg #[.int .u64 xq, .slice pq lq cq]) Q) (hs : IsNat W (.agg #[.int .u64 xr, .slice pr lr cr]) Rm) (bq : Nat) (hbq : Var W bq (.int .u64 xq) (.slice pq lq cq)) (hbqn : w1.heap.size ≤ bq) (br : Nat) (hbr : Var W br (.int .u64 xr) (.slice pr lr cr)) (hbrn : w1.heap.size ≤ br) (hcd : bq ≠ br), R 2 #[true, true, true, true, true, true, true, true, true, false, true, true, true, true, false] { tmps := #[.agg #[.int .u64 x, .slice p l c], .slice pv xs.length cv, .slice (some ⟨pb, 0, none⟩) (k + 1) cp, .pointer (some ⟨w.heap.size, 0, none⟩), undef, undef, .slice none 0 0, undef, .int .i64 (k : Int), .pointer (some ⟨bq, 0, none⟩), .pointer (some ⟨br, 0, none⟩), undef, .slice (some ⟨pb, 0, none⟩) (k + 1) cp, .int .i64 ((k : Int) + 1), .bool false, undef, undef, undef, undef, undef, undef, undef, undef, undef, undef, undef, .slice (some ⟨pb, 0, none⟩) (k + 1) cp, .int .i64 ((k : Int) + 1), .int .i64 (k : Int), .tuple #[.agg #[.int .u64 xq, .slice pq lq cq], .agg #[.int .u64 xr, .slice pr lr cr], .bool true], .agg #[.int .u64 x, .slice p l c], .slice (some ⟨pb, 0, none⟩) (k + 1) cp, .int .i64 (k : Int), .pointer (some ⟨pb, k * 2, none⟩), .agg #[.int .u64 px, .slice pp pl pc], .tuple #[.agg #[.int .u64 xq, .slice pq lq cq], .agg #[.int .u64 xr, .slice pr lr cr], .bool true], .agg #[.int .u64 xq, .slice pq lq cq], .agg #[.int .u64 xr, .slice pr lr cr], undef, undef, undef, undef, undef, undef, undef, undef, undef, undef, undef, undef, undef], defers := [] } W := by
   intro W acc xq pq lq cq xr pr lr cr hz hs bq hbq hbqn br hbr hbrn hcd
   rw [← hR]
   refine wpAnyIn_ready (rs := [9]) (by kernel_rfl) (by simp) ?_
   refine AllReadyIn.cons rfl (fun K hK => ?_) ?_
   · go_simp
     refine hK _ _ ?_
     rw [hR]; exact H111111111111110 W acc xq pq lq cq xr pr lr cr hz hs bq hbq hbqn br hbr hbrn hcd
   exact AllReadyIn.nil
 have H111111111011100 : ∀ (W : World) (acc : Below w1.heap.size w1 W) (xq : Int) (pq : Option Addr) (lq cq : Nat) (xr : Int) (pr : Option Addr) (lr cr : Nat) (hz : IsNat W (.agg #[.int .u64 xq, .slice pq lq cq]) Q) (hs : IsNat W (.agg #[.int .u64 xr, .slice pr lr cr]) Rm) (bq : Nat) (hbq : Var W bq (.int .u64 xq) (.slice pq lq cq)) (hbqn : w1.heap.size ≤ bq) (br : Nat) (hbr : Var W br (.int .u64 0) (.slice none 0 0)) (hbrn : w1.heap.size ≤ br) (hcd : bq ≠ br), R 3 #[true, true, true, true, true, true, true, true, true, false, true, true, true, false, false] { tmps := #[.agg #[.int .u64 x, .slice p l c], .slice pv xs.length cv, .slice (some ⟨pb, 0, none⟩) (k + 1) cp, .pointer (some ⟨w.heap.size, 0, none⟩), undef, undef, .slice none 0 0, undef, .int .i64 (k : Int), .pointer (some ⟨bq, 0, none⟩), .pointer (some ⟨br, 0, none⟩), undef, .slice (some ⟨pb, 0, none⟩) (k + 1) cp, .int .i64 ((k : Int) + 1), .bool false, undef, undef, undef, undef, undef, undef, undef, undef, undef, undef, undef, .slice (some ⟨pb, 0, none⟩) (k + 1) cp, .int .i64 ((k : Int) + 1), .int .i64 (k : Int), .tuple #[.agg #[.int .u64 xq, .slice pq lq cq], .agg #[.int .u64 xr, .slice pr lr cr], .bool true], .agg #[.int .u64 x, .slice p l c], .slice (some ⟨pb, 0, none⟩) (k + 1) cp, .int .i64 (k : Int), .pointer (some ⟨pb, k * 2, none⟩), .agg #[.int .u64 px, .slice pp pl pc], .tuple #[.agg #[.int .u64 xq, .slice pq lq cq], .agg #[.int .u64 xr, .slice pr lr cr], .bool true], .agg #[.int .u64 xq, .slice pq lq cq], .agg #[.int .u64 xr, .slice pr lr cr], undef, undef, undef, undef, undef, undef, undef, undef, undef, undef, undef, undef, undef], defers := [] } W := by
   intro W acc xq pq lq cq xr pr lr cr hz hs bq hbq hbqn br hbr hbrn hcd
   rw [← hR]
   have kbr0 := hbr.c0
   have kbr1 := hbr.c1
   have fbr0 := hbr.free 0
   have fbr1 := hbr.free 1
   refine wpAnyIn_ready (rs := [9, 13]) (by kernel_rfl) (by simp) ?_
   refine AllReadyIn.cons rfl (fun K hK => ?_) ?_
   · go_simp
     refine hK _ _ ?_
     rw [hR]; exact H111111111111100 W acc xq pq lq cq xr pr lr cr hz hs bq hbq hbqn br hbr hbrn hcd
   refine AllReadyIn.cons rfl (fun K hK => ?_) ?_
   · go_simp
     refine hK _ _ ?_
     rw [hR]; exact H111111111011110 ((W.setCell ⟨br, 0, none⟩ (.int .u64 xr)).setCell ⟨br, 1, none⟩ (.slice pr lr cr)) (below_two acc hbrn _ _) xq pq lq cq xr pr lr cr (hz.two hbr _ _) (hs.two hbr _ _) bq ((hbq.other hcd _).other hcd _) hbqn br (hbr.set (.int .u64 xr) pr lr cr) hbrn hcd
   exact AllReadyIn.nil
 have H111111111011000 : ∀ (W : World) (acc : Below w1.heap.size w1 W) (xq : Int) (pq : Option Addr) (lq cq : Nat) (xr : Int) (pr : Option Addr) (lr cr : Nat) (hz : IsNat W (.agg #[.int .u64 xq, .slice pq lq cq]) Q) (hs : IsNat W (.agg #[.int .u64 xr, .slice pr lr cr]) Rm) (bq : Nat) (hbq : Var W bq (.int .u64 0) (.slice none 0 0)) (hbqn : w1.heap.size ≤ bq) (br : Nat) (hbr : Var W br (.int .u64 0) (.slice none 0 0)) (hbrn : w1.heap.size ≤ br) (hcd : bq ≠ br), R 4 #[true, true, true, true, true, true, true, true, true, false, true, true, false, false, false] { tmps := #[.agg #[.int .u64 x, .slice p l c], .slice pv xs.length cv, .slice (some ⟨pb, 0, none⟩) (k + 1) cp, .pointer (some ⟨w.heap.size, 0, none⟩), undef, undef, .slice none 0 0, undef, .int .i64 (k : Int), .pointer (some ⟨bq, 0, none⟩), .pointer (some ⟨br, 0, none⟩), undef, .slice (some ⟨pb, 0, none⟩) (k + 1) cp, .int .i64 ((k : Int) + 1), .bool false, undef, undef, undef, undef, undef, undef, undef, undef, undef, undef, undef, .slice (some ⟨pb, 0, none⟩) (k + 1) cp, .int .i64 ((k : Int) + 1), .int .i64 (k : Int), .tuple #[.agg #[.int .u64 xq, .slice pq lq cq], .agg #[.int .u64 xr, .slice pr lr cr], .bool true], .agg #[.int .u64 x, .slice p l c], .slice (some ⟨pb, 0, none⟩) (k + 1) cp, .int .i64 (k : Int), .pointer (some ⟨pb, k * 2, none⟩), .agg #[.int .u64 px, .slice pp pl pc], .tuple #[.agg #[.int .u64 xq, .slice pq lq cq], .agg #[.int .u64 xr, .slice pr lr cr], .bool true], .agg #[.int .u64 xq, .slice pq lq cq], .agg #[.int .u64 xr, .slice pr lr cr], undef, undef, undef, undef, undef, undef, undef, undef, undef, undef, undef, undef, undef], defers := [] } W := by
   intro W acc xq pq lq cq xr pr lr cr hz hs bq hbq hbqn br hbr hbrn hcd
   rw [← hR]
   have kbq0 := hbq.c0
   have kbq1 := hbq.c1
   have fbq0 := hbq.free 0
   have fbq1 := hbq.free 1
   refine wpAnyIn_ready (rs := [9, 12]) (by kernel_rfl) (by simp) ?_
   refine AllReadyIn.cons rfl (fun K hK => ?_) ?_
   · go_simp
     refine hK _ _ ?_
     rw [hR]; exact H111111111111000 W acc xq pq lq cq xr pr lr cr hz hs bq hbq hbqn br hbr hbrn hcd
   refine AllReadyIn.cons rfl (fun K hK => ?_) ?_
   · go_simp
     refine hK _ _ ?_
     rw [hR]; exact H111111111011100 ((W.setCell ⟨bq, 0, none⟩ (.int .u64 xq)).setCell ⟨bq, 1, none⟩ (.slice pq lq cq)) (below_two acc hbqn _ _) xq pq lq cq xr pr lr cr (hz.two hbq _ _) (hs.two hbq _ _) bq (hbq.set (.int .u64 xq) pq lq cq) hbqn br ((hbr.other hcd.symm _).other hcd.symm _) hbrn hcd
   exact AllReadyIn.nil
 have H111111111010000 : ∀ (W : World) (acc : Below w1.heap.size w1 W) (xq : Int) (pq : Option Addr) (lq cq : Nat) (xr : Int) (pr : Option Addr) (lr cr : Nat) (hz : IsNat W (.agg #[.int .u64 xq, .slice pq lq cq]) Q) (hs : IsNat W (.agg #[.int .u64 xr, .slice pr lr cr]) Rm) (bq : Nat) (hbq : Var W bq (.int .u64 0) (.slice none 0 0)) (hbqn : w1.heap.size ≤ bq), R 5 #[true, true, true, true, true, true, true, true, true, false, true, false, false, false, false] { tmps := #[.agg #[.int .u64 x, .slice p l c], .slice pv xs.length cv, .slice (some ⟨pb, 0, none⟩) (k + 1) cp, .pointer (some ⟨w.heap.size, 0, none⟩), undef, undef, .slice none 0 0, undef, .int .i64 (k : Int), .pointer (some ⟨bq, 0, none⟩), undef, undef, .slice (some ⟨pb, 0, none⟩) (k + 1) cp, .int .i64 ((k : Int) + 1), .bool false, undef, undef, undef, undef, undef, undef, undef, undef, undef, undef, undef, .slice (some ⟨pb, 0, none⟩) (k + 1) cp, .int .i64 ((k : Int) + 1), .int .i64 (k : Int), .tuple #[.agg #[.int .u64 xq, .slice pq lq cq], .agg #[.int .u64 xr, .slice pr lr cr], .bool true], .agg #[.int .u64 x, .slice p l c], .slice (some ⟨pb, 0, none⟩) (k + 1) cp, .int .i64 (k : Int), .pointer (some ⟨pb, k * 2, none⟩), .agg #[.int .u64 px, .slice pp pl pc], .tuple #[.agg #[.int .u64 xq, .slice pq lq cq], .agg #[.int .u64 xr, .slice pr lr cr], .bool true], .agg #[.int .u64 xq, .slice pq lq cq], .agg #[.int .u64 xr, .slice pr lr cr], undef, undef, undef, undef, undef, undef, undef, undef, undef, undef, undef, undef, undef], defers := [] } W := by
   intro W acc xq pq lq cq xr pr lr cr hz hs bq hbq hbqn
   rw [← hR]
   refine wpAnyIn_ready (rs := [9, 11]) (by kernel_rfl) (by simp) ?_
   refine AllReadyIn.cons rfl (fun K hK => ?_) ?_
   · go_simp
     refine hK _ _ ?_
     rw [hR]; exact H111111111110000 W acc xq pq lq cq xr pr lr cr hz hs bq hbq hbqn
   refine AllReadyIn.cons rfl (fun K hK => ?_) ?_
   · go_simp
     refine hK _ _ ?_
     rw [hR]; exact H111111111011000 (W.alloc (.cells #[.int .u64 0, .slice none 0 0] 25)) (acc.alloc acc.size _) xq pq lq cq xr pr lr cr (hz.below ((Below.refl _ W).alloc (Nat.le_refl _) _)) (hs.below ((Below.refl _ W).alloc (Nat.le_refl _) _)) bq (hbq.alloc _) hbqn W.heap.size (Var.new W W.heap.size _ _ _ _ rfl) acc.size (Nat.ne_of_lt hbq.lt)
   exact AllReadyIn.nil
 have H111111111001000 : ∀ (W : World) (acc : Below w1.heap.size w1 W) (xq : Int) (pq : Option Addr) (lq cq : Nat) (xr : Int) (pr : Option Addr) (lr cr : Nat) (hz : IsNat W (.agg #[.int .u64 xq, .slice pq lq cq]) Q) (hs : IsNat W (.agg #[.int .u64 xr, .slice pr lr cr]) Rm) (br : Nat) (hbr : Var W br (.int .u64 0) (.slice none 0 0)) (hbrn : w1.heap.size ≤ br), R 5 #[true, true, true, true, true, true, true, true, true, false, false, true, false, false, false] { tmps := #[.agg #[.int .u64 x, .slice p l c], .slice pv xs.length cv, .slice (some ⟨pb, 0, none⟩) (k + 1) cp, .pointer (some ⟨w.heap.size, 0, none⟩), undef, undef, .slice none 0 0, undef, .int .i64 (k : Int), undef, .pointer (some ⟨br, 0, none⟩), undef, .slice (some ⟨pb, 0, none⟩) (k + 1) cp, .int .i64 ((k : Int) + 1), .bool false, undef, undef, undef, undef, undef, undef, undef, undef, undef, undef, undef, .slice (some ⟨pb, 0, none⟩) (k + 1) cp, .int .i64 ((k : Int) + 1), .int .i64 (k : Int), .tuple #[.agg #[.int .u64 xq, .slice pq lq cq], .agg #[.int .u64 xr, .slice pr lr cr], .bool true], .agg #[.int .u64 x, .slice p l c], .slice (some ⟨pb, 0, none⟩) (k + 1) cp, .int .i64 (k : Int), .pointer (some ⟨pb, k * 2, none⟩), .agg #[.int .u64 px, .slice pp pl pc], .tuple #[.agg #[.int .u64 xq, .slice pq lq cq], .agg #[.int .u64 xr, .slice pr lr cr], .bool true], .agg #[.int .u64 xq, .slice pq lq cq], .agg #[.int .u64 xr, .slice pr lr cr], undef, undef, undef, undef, undef, undef, undef, undef, undef, undef, undef, undef, undef], defers := [] } W := by
   intro W acc xq pq lq cq xr pr lr cr hz hs br hbr hbrn
   rw [← hR]
   refine wpAnyIn_ready (rs := [9, 10]) (by kernel_rfl) (by simp) ?_
   refine AllReadyIn.cons rfl (fun K hK => ?_) ?_
   · go_simp
     refine hK _ _ ?_
     rw [hR]; exact H111111111101000 W acc xq pq lq cq xr pr lr cr hz hs br hbr hbrn
   refine AllReadyIn.cons rfl (fun K hK => ?_) ?_
   · go_simp
     refine hK _ _ ?_
     rw [hR]; exact H111111111011000 (W.alloc (.cells #[.int .u64 0, .slice none 0 0] 25)) (acc.alloc acc.size _) xq pq lq cq xr pr lr cr (hz.below ((Below.refl _ W).alloc (Nat.le_refl _) _)) (hs.below ((Below.refl _ W).alloc (Nat.le_refl _) _)) W.heap.size (Var.new W W.heap.size _ _ _ _ rfl) acc.size br (hbr.alloc _) hbrn (Nat.ne_of_gt hbr.lt)
   exact AllReadyIn.nil
 have H111111111000000 : ∀ (W : World) (acc : Below w1.heap.size w1 W) (xq : Int) (pq : Option Addr) (lq cq : Nat) (xr : Int) (pr : Option Addr) (lr cr : Nat) (hz : IsNat W (.agg #[.int .u64 xq, .slice pq lq cq]) Q) (hs : IsNat W (.agg #[.int .u64 xr, .slice pr lr cr]) Rm), R 6 #[true, true, true, true, true, true, true, true, true, false, false, false, false, false, false] { tmps := #[.agg #[.int .u64 x, .slice p l c], .slice pv xs.length cv, .slice (some ⟨pb, 0, none⟩) (k + 1) cp, .pointer (some ⟨w.heap.size, 0, none⟩), undef, undef, .slice none 0 0, undef, .int .i64 (k : Int), undef, undef, undef, .slice (some ⟨pb, 0, none⟩) (k + 1) cp, .int .i64 ((k : Int) + 1), .bool false, undef, undef, undef, undef, undef, undef, undef, undef, undef, undef, undef, .slice (some ⟨pb, 0, none⟩) (k + 1) cp, .int .i64 ((k : Int) + 1), .int .i64 (k : Int), .tuple #[.agg #[.int .u64 xq, .slice pq lq cq], .agg #[.int .u64 xr, .slice pr lr cr], .bool true], .agg #[.int .u64 x, .slice p l c], .slice (some ⟨pb, 0, none⟩) (k + 1) cp, .int .i64 (k : Int), .pointer (some ⟨pb, k * 2, none⟩), .agg #[.int .u64 px, .slice pp pl pc], .tuple #[.agg #[.int .u64 xq, .slice pq lq cq], .agg #[.int .u64 xr, .slice pr lr cr], .bool true], .agg #[.int .u64 xq, .slice pq lq cq], .agg #[.int .u64 xr, .slice pr lr cr], undef, undef, undef, undef, undef, undef, undef, undef, undef, undef, undef, undef, undef], defers := [] } W := by
   intro W acc xq pq lq cq xr pr lr cr hz hs
   rw [← hR]
   refine wpAnyIn_ready (rs := [9, 10, 11]) (by kernel_rfl) (by simp) ?_
   refine AllReadyIn.cons rfl (fun K hK => ?_) ?_
   · go_simp
     refine hK _ _ ?_
     rw [hR]; exact H111111111100000 W acc xq pq lq cq xr pr lr cr hz hs
   refine AllReadyIn.cons rfl (fun K hK => ?_) ?_
   · go_simp
     refine hK _ _ ?_
     rw [hR]; exact H111111111010000 (W.alloc (.cells #[.int .u64 0, .slice none 0 0] 25)) (acc.alloc acc.size _) xq pq lq cq xr pr lr cr (hz.below ((Below.refl _ W).alloc (Nat.le_refl _) _)) (hs.below ((Below.refl _ W).alloc (Nat.le_refl _) _)) W.heap.size (Var.new W W.heap.size _ _ _ _ rfl) acc.size
   refine AllReadyIn.cons rfl (fun K hK => ?_) ?_
   · go_simp
     refine hK _ _ ?_
     rw [hR]; exact H111111111001000 (W.alloc (.cells #[.int .u64 0, .slice none 0 0] 25)) (acc.alloc acc.size _) xq pq lq cq xr pr lr cr (hz.below ((Below.refl _ W).alloc (Nat.le_refl _) _)) (hs.below ((Below.refl _ W).alloc (Nat.le_refl _) _)) W.heap.size (Var.new W W.heap.size _ _ _ _ rfl) acc.size
   exact AllReadyIn.nil
 have H111111110111100 : ∀ (W : World) (acc : Below w1.heap.size w1 W) (xq : Int) (pq : Option Addr) (lq cq : Nat) (xr : Int) (pr : Option Addr) (lr cr : Nat) (hz : IsNat W (.agg #[.int .u64 xq, .slice pq lq cq]) Q) (hs : IsNat W (.agg #[.int .u64 xr, .slice pr lr cr]) Rm) (bq : Nat) (hbq : Var W bq (.int .u64 xq) (.slice pq lq cq)) (hbqn : w1.heap.size ≤ bq) (br : Nat) (hbr : Var W br (.int .u64 0) (.slice none 0 0)) (hbrn : w1.heap.size ≤ br) (hcd : bq ≠ br), R 3 #[true, true, true, true, true, true, true, true, false, true, true, true, true, false, false] { tmps := #[.agg #[.int .u64 x, .slice p l c], .slice pv xs.length cv, .slice (some ⟨pb, 0, none⟩) (k + 1) cp, .pointer (some ⟨w.heap.size, 0, none⟩), undef, undef, .slice none 0 0, undef, .int .i64 (k : Int), .pointer (some ⟨bq, 0, none⟩), .pointer (some ⟨br, 0, none⟩), undef, .slice (some ⟨pb, 0, none⟩) (k + 1) cp, .int .i64 ((k : Int) + 1), .bool false, undef, undef, undef, undef, undef, undef, undef, undef, undef, undef, undef, .slice (some ⟨pb, 0, none⟩) (k + 1) cp, .int .i64 ((k : Int) + 1), .int .i64 (k : Int), .tuple #[.agg #[.int .u64 xq, .slice pq lq cq], .agg #[.int .u64 xr, .slice pr lr cr], .bool true], .agg #[.int .u64 x, .slice p l c], .slice (some ⟨pb, 0, none⟩) (k + 1) cp, .int .i64 (k : Int), .pointer (some ⟨pb, k * 2, none⟩), .agg #[.int .u64 px, .slice pp pl pc], .tuple #[.agg #[.int .u64 xq, .slice pq lq cq], .agg #[.int .u64 xr, .slice pr lr cr], .bool true], .agg #[.int .u64 xq, .slice pq lq cq], undef, .bool true, undef, undef, undef, undef, undef, undef, undef, undef, undef, undef, undef, undef], defers := [] } W := by
   intro W acc xq pq lq cq xr pr lr cr hz hs bq hbq hbqn br hbr hbrn hcd
   rw [← hR]
   refine wpAnyIn_ready (rs := [8]) (by kernel_rfl) (by simp) ?_
   refine AllReadyIn.cons rfl (fun K hK => ?_) ?_
   · go_simp
     refine hK _ _ ?_
     rw [hR]; exact H111111111111100 W acc xq pq lq cq xr pr lr cr hz hs bq hbq hbqn br hbr hbrn hcd
   exact AllReadyIn.nil
 have H111111110111000 : ∀ (W : World) (acc : Below w1.heap.size w1 W) (xq : Int) (pq : Option Addr) (lq cq : Nat) (xr : Int) (pr : Option Addr) (lr cr : Nat) (hz : IsNat W (.agg #[.int .u64 xq, .slice pq lq cq]) Q) (hs : IsNat W (.agg #[.int .u64 xr, .slice pr lr cr]) Rm) (bq : Nat) (hbq : Var W bq (.int .u64 0) (.slice none 0 0)) (hbqn : w1.heap.size ≤ bq) (br : Nat) (hbr : Var W br (.int .u64 0) (.slice none 0 0)) (hbrn : w1.heap.size ≤ br) (hcd : bq ≠ br), R 4 #[true, true, true, true, true, true, true, true, false, true, true, true, false, false, false] { tmps := #[.agg #[.int .u64 x, .slice p l c], .slice pv xs.length cv, .slice (some ⟨pb, 0, none⟩) (k + 1) cp, .pointer (some ⟨w.heap.size, 0, none⟩), undef, undef, .slice none 0 0, undef, .int .i64 (k : Int), .pointer (some ⟨bq, 0, none⟩), .pointer (some ⟨br, 0, none⟩), undef, .slice (some ⟨pb, 0, none⟩) (k + 1) cp, .int .i64 ((k : Int) + 1), .bool false, undef, undef, undef, undef, undef, undef, undef, undef, undef, undef, undef, .slice (some ⟨pb, 0, none⟩) (k + 1) cp, .int .i64 ((k : Int) + 1), .int .i64 (k : Int), .tuple #[.agg #[.int .u64 xq, .slice pq lq cq], .agg #[.int .u64 xr, .slice pr lr cr], .bool true], .agg #[.int .u64 x, .slice p l c], .slice (some ⟨pb, 0, none⟩) (k + 1) cp, .int .i64 (k : Int), .pointer (some ⟨pb, k * 2, none⟩), .agg #[.int .u64 px, .slice pp pl pc], .tuple #[.agg #[.int .u64 xq, .slice pq lq cq], .agg #[.int .u64 xr, .slice pr lr cr], .bool true], .agg #[.int .u64 xq, .slice pq lq cq], undef, .bool true, undef, undef, undef, undef, undef, undef, undef, undef, undef, undef, undef, undef], defers := [] } W := by
   intro W acc xq pq lq cq xr pr lr cr hz hs bq hbq hbqn br hbr hbrn hcd
   rw [← hR]
   have kbq0 := hbq.c0
   have kbq1 := hbq.c1
   have fbq0 := hbq.free 0
   have fbq1 := hbq.free 1
   refine wpAnyIn_ready (rs := [8, 12]) (by kernel_rfl) (by simp) ?_
   refine AllReadyIn.cons rfl (fun K hK => ?_) ?_
   · go_simp
     refine hK _ _ ?_
     rw [hR]; exact H111111111111000 W acc xq pq lq cq xr pr lr cr hz hs bq hbq hbqn br hbr hbrn hcd
   refine AllReadyIn.cons rfl (fun K hK => ?_) ?_
   · go_simp
     refine hK _ _ ?_
     rw [hR]; exact H111111110111100 ((W.setCell ⟨bq, 0, none⟩ (.int .u64 xq)).setCell ⟨bq, 1, none⟩ (.slice pq lq cq)) (below_two acc hbqn _ _) xq pq lq cq xr pr lr cr (hz.two hbq _ _) (hs.two hbq _ _) bq (hbq.set (.int .u64 xq) pq lq cq) hbqn br ((hbr.other hcd.symm _).other hcd.symm _) hbrn hcd
   exact AllReadyIn.nil
 have H111111110110000 : ∀ (W : World) (acc : Below w1.heap.size w1 W) (xq : Int) (pq : Option Addr) (lq cq : Nat) (xr : Int) (pr : Option Addr) (lr cr : Nat) (hz : IsNat W (.agg #[.int .u64 xq, .slice pq lq cq]) Q) (hs : IsNat W (.agg #[.int .u64 xr, .slice pr lr cr]) Rm) (bq : Nat) (hbq : Var W bq (.int .u64 0) (.slice none 0 0)) (hbqn : w1.heap.size ≤ bq), R 5 #[true, true, true, true, true, true, true, true, false, true, true, false, false, false, false] { tmps := #[.agg #[.int .u64 x, .slice p l c], .slice pv xs.length cv, .slice (some ⟨pb, 0, none⟩) (k + 1) cp, .pointer (some ⟨w.heap.size, 0, none⟩), undef, undef, .slice none 0 0, undef, .int .i64 (k : Int), .pointer (some ⟨bq, 0, none⟩), undef, undef, .slice (some ⟨pb, 0, none⟩) (k + 1) cp, .int .i64 ((k : Int) + 1), .bool false, undef, undef, undef, undef, undef, undef, undef, undef, undef, undef, undef, .slice (some ⟨pb, 0, none⟩) (k + 1) cp, .int .i64 ((k : Int) + 1), .int .i64 (k : Int), .tuple #[.agg #[.int .u64 xq, .slice pq lq cq], .agg #[.int .u64 xr, .slice pr lr cr], .bool true], .agg #[.int .u64 x, .slice p l c], .slice (some ⟨pb, 0, none⟩) (k + 1) cp, .int .i64 (k : Int), .pointer (some ⟨pb, k * 2, none⟩), .agg #[.int .u64 px, .slice pp pl pc], .tuple #[.agg #[.int .u64 xq, .slice pq lq cq], .agg #[.int .u64 xr, .slice pr lr cr], .bool true], .agg #[.int .u64 xq, .slice pq lq cq], undef, .bool true, undef, undef, undef, undef, undef, undef, undef, undef, undef, undef, undef, undef], defers := [] } W := by
   intro W acc xq pq lq cq xr pr lr cr hz hs bq hbq hbqn
   rw [← hR]
   refine wpAnyIn_ready (rs := [8, 11]) (by kernel_rfl) (by simp) ?_
   refine AllReadyIn.cons rfl (fun K hK => ?_) ?_
   · go_simp
     refine hK _ _ ?_
     rw [hR]; exact H111111111110000 W acc xq pq lq cq xr pr lr cr hz hs bq hbq hbqn
   refine AllReadyIn.cons rfl (fun K hK => ?_) ?_
   · go_simp
     refine hK _ _ ?_
     rw [hR]; exact H111111110111000 (W.alloc (.cells #[.int .u64 0, .slice none 0 0] 25)) (acc.alloc acc.size _) xq pq lq cq xr pr lr cr (hz.below ((Below.refl _ W).alloc (Nat.le_refl _) _)) (hs.below ((Below.refl _ W).alloc (Nat.le_refl _) _)) bq (hbq.alloc _) hbqn W.heap.size (Var.new W W.heap.size _ _ _ _ rfl) acc.size (Nat.ne_of_lt hbq.lt)
   exact AllReadyIn.nil
 have H111111110101000 : ∀ (W : World) (acc : Below w1.heap.size w1 W) (xq : Int) (pq : Option Addr) (lq cq : Nat) (xr : Int) (pr : Option Addr) (lr cr : Nat) (hz : IsNat W (.agg #[.int .u64 xq, .slice pq lq cq]) Q) (hs : IsNat W (.agg #[.int .u64 xr, .slice pr lr cr]) Rm) (br : Nat) (hbr : Var W br (.int .u64 0) (.slice none 0 0)) (hbrn : w1.heap.size ≤ br), R 5 #[true, true, true, true, true, true, true, true, false, true, false, true, false, false, false] { tmps := #[.agg #[.int .u64 x, .slice p l c], .slice pv xs.length cv, .slice (some ⟨pb, 0, none⟩) (k + 1) cp, .pointer (some ⟨w.heap.size, 0, none⟩), undef, undef, .slice none 0 0, undef, .int .i64 (k : Int), undef, .pointer (some ⟨br, 0, none⟩), undef, .slice (some ⟨pb, 0, none⟩) (k + 1) cp, .int .i64 ((k : Int) + 1), .bool false, undef, undef, undef, undef, undef, undef, undef, undef, undef, undef, undef, .slice (some ⟨pb, 0, none⟩) (k + 1) cp, .int .i64 ((k : Int) + 1), .int .i64 (k : Int), .tuple #[.agg #[.int .u64 xq, .slice pq lq cq], .agg #[.int .u64 xr, .slice pr lr cr], .bool true], .agg #[.int .u64 x, .slice p l c], .slice (some ⟨pb, 0, none⟩) (k + 1) cp, .int .i64 (k : Int), .pointer (some ⟨pb, k * 2, none⟩), .agg #[.int .u64 px, .slice pp pl pc], .tuple #[.agg #[.int .u64 xq, .slice pq lq cq], .agg #[.int .u64 xr, .slice pr lr cr], .bool true], .agg #[.int .u64 xq, .slice pq lq cq], undef, .bool true, undef, undef, undef, undef, undef, undef, undef, undef, undef, undef, undef, undef], defers := [] } W := by
   intro W acc xq pq lq cq xr pr lr cr hz hs br hbr hbrn
   rw [← hR]
   refine wpAnyIn_ready (rs := [8, 10]) (by kernel_rfl) (by simp) ?_
   refine AllReadyIn.cons rfl (fun K hK => ?_) ?_
   · go_simp
     refine hK _ _ ?_
     rw [hR]; exact H111111111101000 W acc xq pq lq cq xr pr lr cr hz hs br hbr hbrn
   refine AllReadyIn.cons rfl (fun K hK => ?_) ?_
   · go_simp
     refine hK _ _ ?_
     rw [hR]; exact H111111110111000 (W.alloc (.cells #[.int .u64 0, .slice none 0 0] 25)) (acc.alloc acc.size _) xq pq lq cq xr pr lr cr (hz.below ((Below.refl _ W).alloc (Nat.le_refl _) _)) (hs.below ((Below.refl _ W).alloc (Nat.le_refl _) _)) W.heap.size (Var.new W W.heap.size _ _ _ _ rfl) acc.size br (hbr.alloc _) hbrn (Nat.ne_of_gt hbr.lt)
   exact AllReadyIn.nil
 have H111111110100000 : ∀ (W : World) (acc : Below w1.heap.size w1 W) (xq : Int) (pq : Option Addr) (lq cq : Nat) (xr : Int) (pr : Option Addr) (lr cr : Nat) (hz : IsNat W (.agg #[.int .u64 xq, .slice pq lq cq]) Q) (hs : IsNat W (.agg #[.int .u64 xr, .slice pr lr cr]) Rm), R 6 #[true, true, true, true, true, true, true, true, false, true, false, false, false, false, false] { tmps := #[.agg #[.int .u64 x, .slice p l c], .slice pv xs.length cv, .slice (some ⟨pb, 0, none⟩) (k + 1) cp, .pointer (some ⟨w.heap.size, 0, none⟩), undef, undef, .slice none 0 0, undef, .int .i64 (k : Int), undef, undef, undef, .slice (some ⟨pb, 0, none⟩) (k + 1) cp, .int .i64 ((k : Int) + 1), .bool false, undef, undef, undef, undef, undef, undef, undef, undef, undef, undef, undef, .slice (some ⟨pb, 0, none⟩) (k + 1) cp, .int .i64 ((k : Int) + 1), .int .i64 (k : Int), .tuple #[.agg #[.int .u64 xq, .slice pq lq cq], .agg #[.int .u64 xr, .slice pr lr cr], .bool true], .agg #[.int .u64 x, .slice p l c], .slice (some ⟨pb, 0, none⟩) (k + 1) cp, .int .i64 (k : Int), .pointer (some ⟨pb, k * 2, none⟩), .agg #[.int .u64 px, .slice pp pl pc], .tuple #[.agg #[.int .u64 xq, .slice pq lq cq], .agg #[.int .u64 xr, .slice pr lr cr], .bool true], .agg #[.int .u64 xq, .slice pq lq cq], undef, .bool true, undef, undef, undef, undef, undef, undef, undef, undef, undef, undef, undef, undef], defers := [] } W := by
   intro W acc xq pq lq cq xr pr lr cr hz hs
   rw [← hR]
   refine wpAnyIn_ready (rs := [8, 10, 11]) (by kernel_rfl) (by simp) ?_
   refine AllReadyIn.cons rfl (fun K hK => ?_) ?_
   · go_simp
     refine hK _ _ ?_
     rw [hR]; exact H111111111100000 W acc xq pq lq cq xr pr lr cr hz hs
   refine AllReadyIn.cons rfl (fun K hK => ?_) ?_
   · go_simp
     refine hK _ _ ?_
     rw [hR]; exact H111111110110000 (W.alloc (.cells #[.int .u64 0, .slice none 0 0] 25)) (acc.alloc acc.size _) xq pq lq cq xr pr lr cr (hz.below ((Below.refl _ W).alloc (Nat.le_refl _) _)) (hs.below ((Below.refl _ W).alloc (Nat.le_refl _) _)) W.heap.size (Var.new W W.heap.size _ _ _ _ rfl) acc.size
   refine AllReadyIn.cons rfl (fun K hK => ?_) ?_
   · go_simp
     refine hK _ _ ?_
     rw [hR]; exact H111111110101000 (W.alloc (.cells #[.int .u64 0, .slice none 0 0] 25)) (acc.alloc acc.size _) xq pq lq cq xr pr lr cr (hz.below ((Below.refl _ W).alloc (Nat.le_refl _) _)) (hs.below ((Below.refl _ W).alloc (Nat.le_refl _) _)) W.heap.size (Var.new W W.heap.size _ _ _ _ rfl) acc.size
   exact AllReadyIn.nil
 have H111111110011100 : ∀ (W : World) (acc : Below w1.heap.size w1 W) (xq : Int) (pq : Option Addr) (lq cq : Nat) (xr : Int) (pr : Option Addr) (lr cr : Nat) (hz : IsNat W (.agg #[.int .u64 xq, .slice pq lq cq]) Q) (hs : IsNat W (.agg #[.int .u64 xr, .slice pr lr cr]) Rm) (bq : Nat) (hbq : Var W bq (.int .u64 xq) (.slice pq lq cq)) (hbqn : w1.heap.size ≤ bq) (br : Nat) (hbr : Var W br (.int .u64 0) (.slice none 0 0)) (hbrn : w1.heap.size ≤ br) (hcd : bq ≠ br), R 4 #[true, true, true, true, true, true, true, true, false, false, true, true, true, false, false] { tmps := #[.agg #[.int .u64 x, .slice p l c], .slice pv xs.length cv, .slice (some ⟨pb, 0, none⟩) (k + 1) cp, .pointer (some ⟨w.heap.size, 0, none⟩), undef, undef, .slice none 0 0, undef, .int .i64 (k : Int), .pointer (some ⟨bq, 0, none⟩), .pointer (some ⟨br, 0, none⟩), undef, .slice (some ⟨pb, 0, none⟩) (k + 1) cp, .int .i64 ((k : Int) + 1), .bool false, undef, undef, undef, undef, undef, undef, undef, undef, undef, undef, undef, .slice (some ⟨pb, 0, none⟩) (k + 1) cp, .int .i64 ((k : Int) + 1), .int .i64 (k : Int), .tuple #[.agg #[.int .u64 xq, .slice pq lq cq], .agg #[.int .u64 xr, .slice pr lr cr], .bool true], .agg #[.int .u64 x, .slice p l c], .slice (some ⟨pb, 0, none⟩) (k + 1) cp, .int .i64 (k : Int), .pointer (some ⟨pb, k * 2, none⟩), .agg #[.int .u64 px, .slice pp pl pc], .tuple #[.agg #[.int .u64 xq, .slice pq lq cq], .agg #[.int .u64 xr, .slice pr lr cr], .bool true], .agg #[.int .u64 xq, .slice pq lq cq], undef, undef, undef, undef, undef, undef, undef, undef, undef, undef, undef, undef, undef, undef], defers := [] } W := by
   intro W acc xq pq lq cq xr pr lr cr hz hs bq hbq hbqn br hbr hbrn hcd
   rw [← hR]
   refine wpAnyIn_ready (rs := [8, 9]) (by kernel_rfl) (by simp) ?_
   refine AllReadyIn.cons rfl (fun K hK => ?_) ?_
   · go_simp
     refine hK _ _ ?_
     rw [hR]; exact H111111111011100 W acc xq pq lq cq xr pr lr cr hz hs bq hbq hbqn br hbr hbrn hcd
   refine AllReadyIn.cons rfl (fun K hK => ?_) ?_
   · go_simp
     refine hK _ _ ?_
     rw [hR]; exact H111111110111100 W acc xq pq lq cq xr pr lr cr hz hs bq hbq hbqn br hbr hbrn hcd
   exact AllReadyIn.nil
 have H111111110011000 : ∀ (W : World) (acc : Below w1.heap.size w1 W) (xq : Int) (pq : Option Addr) (lq cq : Nat) (xr : Int) (pr : Option Addr) (lr cr : Nat) (hz : IsNat W (.agg #[.int .u64 xq, .slice pq lq cq]) Q) (hs : IsNat W (.agg #[.int .u64 xr, .slice pr lr cr]) Rm) (bq : Nat) (hbq : Var W bq (.int .u64 0) (.slice none 0 0)) (hbqn : w1.heap.size ≤ bq) (br : Nat) (hbr : Var W br (.int .u64 0) (.slice none 0 0)) (hbrn : w1.heap.size ≤ br) (hcd : bq ≠ br), R 5 #[true, true, true, true, true, true, true, true, false, false, true, true, false, false, false] { tmps := #[.agg #[.int .u64 x, .slice p l c], .slice pv xs.length cv, .slice (some ⟨pb, 0, none⟩) (k + 1) cp, .pointer (some ⟨w.heap.size, 0, none⟩), undef, undef, .slice none 0 0, undef, .int .i64 (k : Int), .pointer (some ⟨bq, 0, none⟩), .pointer (some ⟨br, 0, none⟩), undef, .slice (some ⟨pb, 0, none⟩) (k + 1) cp, .int .i64 ((k : Int) + 1), .bool false, undef, undef, undef, undef, undef, undef, undef, undef, undef, undef, undef, .slice (some ⟨pb, 0, none⟩) (k + 1) cp, .int .i64 ((k : Int) + 1), .int .i64 (k : Int), .tuple #[.agg #[.int .u64 xq, .slice pq lq cq], .agg #[.int .u64 xr, .slice pr lr cr], .bool true], .agg #[.int .u64 x, .slice p l c], .slice (some ⟨pb, 0, none⟩) (k + 1) cp, .int .i64 (k : Int), .pointer (some ⟨pb, k * 2, none⟩), .agg #[.int .u64 px, .slice pp pl pc], .tuple #[.agg #[.int .u64 xq, .slice pq lq cq], .agg #[.int .u64 xr, .slice pr lr cr], .bool true], .agg #[.int .u64 xq, .slice pq lq cq], undef, undef, undef, undef, undef, undef, undef, undef, undef, undef, undef, undef, undef, undef], defers := [] } W := by
   intro W acc xq pq lq cq xr pr lr cr hz hs bq hbq hbqn br hbr hbrn hcd
   rw [← hR]
   have kbq0 := hbq.c0
   have kbq1 := hbq.c1
   have fbq0 := hbq.free 0
   have fbq1 := hbq.free 1
   refine wpAnyIn_ready (rs := [8, 9, 12]) (by kernel_rfl) (by simp) ?_
   refine AllReadyIn.cons rfl (fun K hK => ?_) ?_
   · go_simp
     refine hK _ _ ?_
     rw [hR]; exact H111111111011000 W acc xq pq lq cq xr pr lr cr hz hs bq hbq hbqn br hbr hbrn hcd
   refine AllReadyIn.cons rfl (fun K hK => ?_) ?_
   · go_simp
     refine hK _ _ ?_
     rw [hR]; exact H111111110111000 W acc xq pq lq cq xr pr lr cr hz hs bq hbq hbqn br hbr hbrn hcd
   refine AllReadyIn.cons rfl (fun K hK => ?_) ?_
   · go_simp
     refine hK _ _ ?_
     rw [hR]; exact H111111110011100 ((W.setCell ⟨bq, 0, none⟩ (.int .u64 xq)).setCell ⟨bq, 1, none⟩ (.slice pq lq cq)) (below_two acc hbqn _ _) xq pq lq cq xr pr lr cr (hz.two hbq _ _) (hs.two hbq _ _) bq (hbq.set (.int .u64 xq) pq lq cq) hbqn br ((hbr.other hcd.symm _).other hcd.symm _) hbrn hcd
   exact AllReadyIn.nil
 have H111111110010000 : ∀ (W : World) (acc : Below w1.heap.size w1 W) (xq : Int) (pq : Option Addr) (lq cq : Nat) (xr : Int) (pr : Option Addr) (lr cr : Nat) (hz : IsNat W (.agg #[.int .u64 xq, .slice pq lq cq]) Q) (hs : IsNat W (.agg #[.int .u64 xr, .slice pr lr cr]) Rm) (bq : Nat) (hbq : Var W bq (.int .u64 0) (.slice none 0 0)) (hbqn : w1.heap.size ≤ bq), R 6 #[true, true, true, true, true, true, true, true, false, false, true, false, false, false, false] { tmps := #[.agg #[.int .u64 x, .slice p l c], .slice pv xs.length cv, .slice (some ⟨pb, 0, none⟩) (k + 1) cp, .pointer (some ⟨w.heap.size, 0, none⟩), undef, undef, .slice none 0 0, undef, .int .i64 (k : Int), .pointer (some ⟨bq, 0, none⟩), undef, undef, .slice (some ⟨pb, 0, none⟩) (k + 1) cp, .int .i64 ((k : Int) + 1), .bool false, undef, undef, undef, undef, undef, undef, undef, undef, undef, undef, undef, .slice (some ⟨pb, 0, none⟩) (k + 1) cp, .int .i64 ((k : Int) + 1), .int .i64 (k : Int), .tuple #[.agg #[.int .u64 xq, .slice pq lq cq], .agg #[.int .u64 xr, .slice pr lr cr], .bool true], .agg #[.int .u64 x, .slice p l c], .slice (some ⟨pb, 0, none⟩) (k + 1) cp, .int .i64 (k : Int), .pointer (some ⟨pb, k * 2, none⟩), .agg #[.int .u64 px, .slice pp pl pc], .tuple #[.agg #[.int .u64 xq, .slice pq lq cq], .agg #[.int .u64 xr, .slice pr lr cr], .bool true], .agg #[.int .u64 xq, .slice pq lq cq], undef, undef, undef, undef, undef, undef, undef, undef, undef, undef, undef, undef, undef, undef], defers := [] } W := by
   intro W acc xq pq lq cq xr pr lr cr hz hs bq hbq hbqn
   rw [← hR]
   refine wpAnyIn_ready (rs := [8, 9, 11]) (by kernel_rfl) (by simp) ?_
   refine AllReadyIn.cons rfl (fun K hK => ?_) ?_
   · go_simp
     refine hK _ _ ?_
     rw [hR]; exact H111111111010000 W acc xq pq lq cq xr pr lr cr hz hs bq hbq hbqn
   refine AllReadyIn.cons rfl (fun K hK => ?_) ?_
   · go_simp
     refine hK _ _ ?_
     rw [hR]; exact H111111110110000 W acc xq pq lq cq xr pr lr cr hz hs bq hbq hbqn
   refine AllReadyIn.cons rfl (fun K hK => ?_) ?_
   · go_simp
     refine hK _ _ ?_
     rw [hR]; exact H111111110011000 (W.alloc (.cells #[.int .u64 0, .slice none 0 0] 25)) (acc.alloc acc.size _) xq pq lq cq xr pr lr cr (hz.below ((Below.refl _ W).alloc (Nat.le_refl _) _)) (hs.below ((Below.refl _ W).alloc (Nat.le_refl _) _)) bq (hbq.alloc _) hbqn W.heap.size (Var.new W W.heap.size _ _ _ _ rfl) acc.size (Nat.ne_of_lt hbq.lt)
   exact AllReadyIn.nil
 have H111111110001000 : ∀ (W : World) (acc : Below w1.heap.size w1 W) (xq : Int) (pq : Option Addr) (lq cq : Nat) (xr : Int) (pr : Option Addr) (lr cr : Nat) (hz : IsNat W (.agg #[.int .u64 xq, .slice pq lq cq]) Q) (hs : IsNat W (.agg #[.int .u64 xr, .slice pr lr cr]) Rm) (br : Nat) (hbr : Var W br (.int .u64 0) (.slice none 0 0)) (hbrn : w1.heap.size ≤ br), R 6 #[true, true, true, true, true, true, true, true, false, false, false, true, false, false, false] { tmps := #[.agg #[.int .u64 x, .slice p l c], .slice pv xs.length cv, .slice (some ⟨pb, 0, none⟩) (k + 1) cp, .pointer (some ⟨w.heap.size, 0, none⟩), undef, undef, .slice none 0 0, undef, .int .i64 (k : Int), undef, .pointer (some ⟨br, 0, none⟩), undef, .slice (some ⟨pb, 0, none⟩) (k + 1) cp, .int .i64 ((k : Int) + 1), .bool false, undef, undef, undef, undef, undef, undef, undef, undef, undef, undef, undef, .slice (some ⟨pb, 0, none⟩) (k + 1) cp, .int .i64 ((k : Int) + 1), .int .i64 (k : Int), .tuple #[.agg #[.int .u64 xq, .slice pq lq cq], .agg #[.int .u64 xr, .slice pr lr cr], .bool true], .agg #[.int .u64 x, .slice p l c], .slice (some ⟨pb, 0, none⟩) (k + 1) cp, .int .i64 (k : Int), .pointer (some ⟨pb, k * 2, none⟩), .agg #[.int .u64 px, .slice pp pl pc], .tuple #[.agg #[.int .u64 xq, .slice pq lq cq], .agg #[.int .u64 xr, .slice pr lr cr], .bool true], .agg #[.int .u64 xq, .slice pq lq cq], undef, undef, undef, undef, undef, undef, undef, undef, undef, undef, undef, undef, undef, undef], defers := [] } W := by
   intro W acc xq pq lq cq xr pr lr cr hz hs br hbr hbrn
   rw [← hR]
   refine wpAnyIn_ready (rs := [8, 9, 10]) (by kernel_rfl) (by simp) ?_
   refine AllReadyIn.cons rfl (fun K hK => ?_) ?_
   · go_simp
     refine hK _ _ ?_
     rw [hR]; exact H111111111001000 W acc xq pq lq cq xr pr lr cr hz hs br hbr hbrn
   refine AllReadyIn.cons rfl (fun K hK => ?_) ?_
   · go_simp
     refine hK _ _ ?_
     rw [hR]; exact H111111110101000 W acc xq pq lq cq xr pr lr cr hz hs br hbr hbrn
   refine AllReadyIn.cons rfl (fun K hK => ?_) ?_
   · go_simp
     refine hK _ _ ?_
     rw [hR]; exact H111111110011000 (W.alloc (.cells #[.int .u64 0, .slice none 0 0] 25)) (acc.alloc acc.size _) xq pq lq cq xr pr lr cr (hz.below ((Below.refl _ W).alloc (Nat.le_refl _) _)) (hs.below ((Below.refl _ W).alloc (Nat.le_refl _) _)) W.heap.size (Var.new W W.heap.size _ _ _ _ rfl) acc.size br (hbr.alloc _) hbrn (Nat.ne_of_gt hbr.lt)
   exact AllReadyIn.nil
 have H111111110000000 : ∀ (W : World) (acc : Below w1.heap.size w1 W) (xq : Int) (pq : Option Addr) (lq cq : Nat) (xr : Int) (pr : Option Addr) (lr cr : Nat) (hz : IsNat W (.agg #[.int .u64 xq, .slice pq lq cq]) Q) (hs : IsNat W (.agg #[.int .u64 xr, .slice pr lr cr]) Rm), R 7 #[true, true, true, true, true, true, true, true, false, false, false, false, false, false, false] { tmps := #[.agg #[.int .u64 x, .slice p l c], .slice pv xs.length cv, .slice (some ⟨pb, 0, none⟩) (k + 1) cp, .pointer (some ⟨w.heap.size, 0, none⟩), undef, undef, .slice none 0 0, undef, .int .i64 (k : Int), undef, undef, undef, .slice (some ⟨pb, 0, none⟩) (k + 1) cp, .int .i64 ((k : Int) + 1), .bool false, undef, undef, undef, undef, undef, undef, undef, undef, undef, undef, undef, .slice (some ⟨pb, 0, none⟩) (k + 1) cp, .int .i64 ((k : Int) + 1), .int .i64 (k : Int), .tuple #[.agg #[.int .u64 xq, .slice pq lq cq], .agg #[.int .u64 xr, .slice pr lr cr], .bool true], .agg #[.int .u64 x, .slice p l c], .slice (some ⟨pb, 0, none⟩) (k + 1) cp, .int .i64 (k : Int), .pointer (some ⟨pb, k * 2, none⟩), .agg #[.int .u64 px, .slice pp pl pc], .tuple #[.agg #[.int .u64 xq, .slice pq lq cq], .agg #[.int .u64 xr, .slice pr lr cr], .bool true], .agg #[.int .u64 xq, .slice pq lq cq], undef, undef, undef, undef, undef, undef, undef, undef, undef, undef, undef, undef, undef, undef], defers := [] } W := by
   intro W acc xq pq lq cq xr pr lr cr hz hs
   rw [← hR]
   refine wpAnyIn_ready (rs := [8, 9, 10, 11]) (by kernel_rfl) (by simp) ?_
   refine AllReadyIn.cons rfl (fun K hK => ?_) ?_
   · go_simp
     refine hK _ _ ?_
     rw [hR]; exact H111111111000000 W acc xq pq lq cq xr pr lr cr hz hs
   refine AllReadyIn.cons rfl (fun K hK => ?_) ?_
   · go_simp
     refine hK _ _ ?_
     rw [hR]; exact H111111110100000 W acc xq pq lq cq xr pr lr cr hz hs
   refine AllReadyIn.cons rfl (fun K hK => ?_) ?_
   · go_simp
     refine hK _ _ ?_
     rw [hR]; exact H111111110010000 (W.alloc (.cells #[.int .u64 0, .slice none 0 0] 25)) (acc.alloc acc.size _) xq pq lq cq xr pr lr cr (hz.below ((Below.refl _ W).alloc (Nat.le_refl _) _)) (hs.below ((Below.refl _ W).alloc (Nat.le_refl _) _)) W.heap.size (Var.new W W.heap.size _ _ _ _ rfl) acc.size
   refine AllReadyIn.cons rfl (fun K hK => ?_) ?_
   · go_simp
     refine hK _ _ ?_
     rw [hR]; exact H111111110001000 (W.alloc (.cells #[.int .u64 0, .slice none 0 0] 25)) (acc.alloc acc.size _) xq pq lq cq xr pr lr cr (hz.below ((Below.refl _ W).alloc (Nat.le_refl _) _)) (hs.below ((Below.refl _ W).alloc (Nat.le_refl _) _)) W.heap.size (Var.new W W.heap.size _ _ _ _ rfl) acc.size
   exact AllReadyIn.nil
 have H111111101111000 : ∀ (W : World) (acc : Below w1.heap.size w1 W) (xq : Int) (pq : Option Addr) (lq cq : Nat) (xr : Int) (pr : Option Addr) (lr cr : Nat) (hz : IsNat W (.agg #[.int .u64 xq, .slice pq lq cq]) Q) (hs : IsNat W (.agg #[.int .u64 xr, .slice pr lr cr]) Rm) (bq : Nat) (hbq : Var W bq (.int .u64 0) (.slice none 0 0)) (hbqn : w1.heap.size ≤ bq) (br : Nat) (hbr : Var W br (.int .u64 0) (.slice none 0 0)) (hbrn : w1.heap.size ≤ br) (hcd : bq ≠ br), R 4 #[true, true, true, true, true, true, true, false, true, true, true, true, false, false, false] { tmps := #[.agg #[.int .u64 x, .slice p l c], .slice pv xs.length cv, .slice (some ⟨pb, 0, none⟩) (k + 1) cp, .pointer (some ⟨w.heap.size, 0, none⟩), undef, undef, .slice none 0 0, undef, .int .i64 (k : Int), .pointer (some ⟨bq, 0, none⟩), .pointer (some ⟨br, 0, none⟩), undef, .slice (some ⟨pb, 0, none⟩) (k + 1) cp, .int .i64 ((k : Int) + 1), .bool false, undef, undef, undef, undef, undef, undef, undef, undef, undef, undef, undef, .slice (some ⟨pb, 0, none⟩) (k + 1) cp, .int .i64 ((k : Int) + 1), .int .i64 (k : Int), .tuple #[.agg #[.int .u64 xq, .slice pq lq cq], .agg #[.int .u64 xr, .slice pr lr cr], .bool true], .agg #[.int .u64 x, .slice p l c], .slice (some ⟨pb, 0, none⟩) (k + 1) cp, .int .i64 (k : Int), .pointer (some ⟨pb, k * 2, none⟩), .agg #[.int .u64 px, .slice pp pl pc], .tuple #[.agg #[.int .u64 xq, .slice pq lq cq], .agg #[.int .u64 xr, .slice pr lr cr], .bool true], undef, .agg #[.int .u64 xr, .slice pr lr cr], .bool true, undef, undef, undef, undef, undef, undef, undef, undef, undef, undef, undef, undef], defers := [] } W := by
   intro W acc xq pq lq cq xr pr lr cr hz hs bq hbq hbqn br hbr hbrn hcd
   rw [← hR]
   refine wpAnyIn_ready (rs := [7]) (by kernel_rfl) (by simp) ?_
   refine AllReadyIn.cons rfl (fun K hK => ?_) ?_
   · go_simp
     refine hK _ _ ?_
     rw [hR]; exact H111111111111000 W acc xq pq lq cq xr pr lr cr hz hs bq hbq hbqn br hbr hbrn hcd
   exact AllReadyIn.nil
 have H111111101110000 : ∀ (W : World) (acc : Below w1.heap.size w1 W) (xq : Int) (pq : Option Addr) (lq cq : Nat) (xr : Int) (pr : Option Addr) (lr cr : Nat) (hz : IsNat W (.agg #[.int .u64 xq, .slice pq lq cq]) Q) (hs : IsNat W (.agg #[.int .u64 xr, .slice pr lr cr]) Rm) (bq : Nat) (hbq : Var W bq (.int .u64 0) (.slice none 0 0)) (hbqn : w1.heap.size ≤ bq), R 5 #[true, true, true, true, true, true, true, false, true, true, true, false, false, false, false] { tmps := #[.agg #[.int .u64 x, .slice p l c], .slice pv xs.length cv, .slice (some ⟨pb, 0, none⟩) (k + 1) cp, .pointer (some ⟨w.heap.size, 0, none⟩), undef, undef, .slice none 0 0, undef, .int .i64 (k : Int), .pointer (some ⟨bq, 0, none⟩), undef, undef, .slice (some ⟨pb, 0, none⟩) (k + 1) cp, .int .i64 ((k : Int) + 1), .bool false, undef, undef, undef, undef, undef, undef, undef, undef, undef, undef, undef, .slice (some ⟨pb, 0, none⟩) (k + 1) cp, .int .i64 ((k : Int) + 1), .int .i64 (k : Int), .tuple #[.agg #[.int .u64 xq, .slice pq lq cq], .agg #[.int .u64 xr, .slice pr lr cr], .bool true], .agg #[.int .u64 x, .slice p l c], .slice (some ⟨pb, 0, none⟩) (k + 1) cp, .int .i64 (k : Int), .pointer (some ⟨pb, k * 2, none⟩), .agg #[.int .u64 px, .slice pp pl pc], .tuple #[.agg #[.int .u64 xq, .slice pq lq cq], .agg #[.int .u64 xr, .slice pr lr cr], .bool true], undef, .agg #[.int .u64 xr, .slice pr lr cr], .bool true, undef, undef, undef, undef, undef, undef, undef, undef, undef, undef, undef, undef], defers := [] } W := by
   intro W acc xq pq lq cq xr pr lr cr hz hs bq hbq hbqn
   rw [← hR]
   refine wpAnyIn_ready (rs := [7, 11]) (by kernel_rfl) (by simp) ?_
   refine AllReadyIn.cons rfl (fun K hK => ?_) ?_
   · go_simp
     refine hK _ _ ?_
     rw [hR]; exact H111111111110000 W acc xq pq lq cq xr pr lr cr hz hs bq hbq hbqn
   refine AllReadyIn.cons rfl (fun K hK => ?_) ?_
   · go_simp
     refine hK _ _ ?_
     rw [hR]; exact H111111101111000 (W.alloc (.cells #[.int .u64 0, .slice none 0 0] 25)) (acc.alloc acc.size _) xq pq lq cq xr pr lr cr (hz.below ((Below.refl _ W).alloc (Nat.le_refl _) _)) (hs.below ((Below.refl _ W).alloc (Nat.le_refl _) _)) bq (hbq.alloc _) hbqn W.heap.size (Var.new W W.heap.size _ _ _ _ rfl) acc.size (Nat.ne_of_lt hbq.lt)
   exact AllReadyIn.nil
 have H111111101101000 : ∀ (W : World) (acc : Below w1.heap.size w1 W) (xq : Int) (pq : Option Addr) (lq cq : Nat) (xr : Int) (pr : Option Addr) (lr cr : Nat) (hz : IsNat W (.agg #[.int .u64 xq, .slice pq lq cq]) Q) (hs : IsNat W (.agg #[.int .u64 xr, .slice pr lr cr]) Rm) (br : Nat) (hbr : Var W br (.int .u64 0) (.slice none 0 0)) (hbrn : w1.heap.size ≤ br), R 5 #[true, true, true, true, true, true, true, false, true, true, false, true, false, false, false] { tmps := #[.agg #[.int .u64 x, .slice p l c], .slice pv xs.length cv, .slice (some ⟨pb, 0, none⟩) (k + 1) cp, .pointer (some ⟨w.heap.size, 0, none⟩), undef, undef, .slice none 0 0, undef, .int .i64 (k : Int), undef, .pointer (some ⟨br, 0, none⟩), undef, .slice (some ⟨pb, 0, none⟩) (k + 1) cp, .int .i64 ((k : Int) + 1), .bool false, undef, undef, undef, undef, undef, undef, undef, undef, undef, undef, undef, .slice (some ⟨pb, 0, none⟩) (k + 1) cp, .int .i64 ((k : Int) + 1), .int .i64 (k : Int), .tuple #[.agg #[.int .u64 xq, .slice pq lq cq], .agg #[.int .u64 xr, .slice pr lr cr], .bool true], .agg #[.int .u64 x, .slice p l c], .slice (some ⟨pb, 0, none⟩) (k + 1) cp, .int .i64 (k : Int), .pointer (some ⟨pb, k * 2, none⟩), .agg #[.int .u64 px, .slice pp pl pc], .tuple #[.agg #[.int .u64 xq, .slice pq lq cq], .agg #[.int .u64 xr, .slice pr lr cr], .bool true], undef, .agg #[.int .u64 xr, .slice pr lr cr], .bool true, undef, undef, undef, undef, undef, undef, undef, undef, undef, undef, undef, undef], defers := [] } W := by
   intro W acc xq pq lq cq xr pr lr cr hz hs br hbr hbrn
   rw [← hR]
   refine wpAnyIn_ready (rs := [7, 10]) (by kernel_rfl) (by simp) ?_
   refine AllReadyIn.cons rfl (fun K hK => ?_) ?_
   · go_simp
     refine hK _ _ ?_
     rw [hR]; exact H111111111101000 W acc xq pq lq cq xr pr lr cr hz hs br hbr hbrn
   refine AllReadyIn.cons rfl (fun K hK => ?_) ?_
   · go_simp
     refine hK _ _ ?_
     rw [hR]; exact H111111101111000 (W.alloc (.cells #[.int .u64 0, .slice none 0 0] 25)) (acc.alloc acc.size _) xq pq lq cq xr pr lr cr (hz.below ((Below.refl _ W).alloc (Nat.le_refl _) _)) (hs.below ((Below.refl _ W).alloc (Nat.le_refl _) _)) W.heap.size (Var.new W W.heap.size _ _ _ _ rfl) acc.size br (hbr.alloc _) hbrn (Nat.ne_of_gt hbr.lt)
   exact AllReadyIn.nil
 have H111111101100000 : ∀ (W : World) (acc : Below w1.heap.size w1 W) (xq : Int) (pq : Option Addr) (lq cq : Nat) (xr : Int) (pr : Option Addr) (lr cr : Nat) (hz : IsNat W (.agg #[.int .u64 xq, .slice pq lq cq]) Q) (hs : IsNat W (.agg #[.int .u64 xr, .slice pr lr cr]) Rm), R 6 #[true, true, true, true, true, true, true, false, true, true, false, false, false, false, false] { tmps := #[.agg #[.int .u64 x, .slice p l c], .slice pv xs.length cv, .slice (some ⟨pb, 0, none⟩) (k + 1) cp, .pointer (some ⟨w.heap.size, 0, none⟩), undef, undef, .slice none 0 0, undef, .int .i64 (k : Int), undef, undef, undef, .slice (some ⟨pb, 0, none⟩) (k + 1) cp, .int .i64 ((k : Int) + 1), .bool false, undef, undef, undef, undef, undef, undef, undef, undef, undef, undef, undef, .slice (some ⟨pb, 0, none⟩) (k + 1) cp, .int .i64 ((k : Int) + 1), .int .i64 (k : Int), .tuple #[.agg #[.int .u64 xq, .slice pq lq cq], .agg #[.int .u64 xr, .slice pr lr cr], .bool true], .agg #[.int .u64 x, .slice p l c], .slice (some ⟨pb, 0, none⟩) (k + 1) cp, .int .i64 (k : Int), .pointer (some ⟨pb, k * 2, none⟩), .agg #[.int .u64 px, .slice pp pl pc], .tuple #[.agg #[.int .u64 xq, .slice pq lq cq], .agg #[.int .u64 xr, .slice pr lr cr], .bool true], undef, .agg #[.int .u64 xr, .slice pr lr cr], .bool true, undef, undef, undef, undef, undef, undef, undef, undef, undef, undef, undef, undef], defers := [] } W := by
   intro W acc xq pq lq cq xr pr lr cr hz hs
   rw [← hR]
   refine wpAnyIn_ready (rs := [7, 10, 11]) (by kernel_rfl) (by simp) ?_
   refine AllReadyIn.cons rfl (fun K hK => ?_) ?_
   · go_simp
     refine hK _ _ ?_
     rw [hR]; exact H111111111100000 W acc xq pq lq cq xr pr lr cr hz hs
   refine AllReadyIn.cons rfl (fun K hK => ?_) ?_
   · go_simp
     refine hK _ _ ?_
     rw [hR]; exact H111111101110000 (W.alloc (.cells #[.int .u64 0, .slice none 0 0] 25)) (acc.alloc acc.size _) xq pq lq cq xr pr lr cr (hz.below ((Below.refl _ W).alloc (Nat.le_refl _) _)) (hs.below ((Below.refl _ W).alloc (Nat.le_refl _) _)) W.heap.size (Var.new W W.heap.size _ _ _ _ rfl) acc.size
   refine AllReadyIn.cons rfl (fun K hK => ?_) ?_
   · go_simp
     refine hK _ _ ?_
     rw [hR]; exact H111111101101000 (W.alloc (.cells #[.int .u64 0, .slice none 0 0] 25)) (acc.alloc acc.size _) xq pq lq cq xr pr lr cr (hz.below ((Below.refl _ W).alloc (Nat.le_refl _) _)) (hs.below ((Below.refl _ W).alloc (Nat.le_refl _) _)) W.heap.size (Var.new W W.heap.size _ _ _ _ rfl) acc.size
   exact AllReadyIn.nil
 have H111111101011000 : ∀ (W : World) (acc : Below w1.heap.size w1 W) (xq : Int) (pq : Option Addr) (lq cq : Nat) (xr : Int) (pr : Option Addr) (lr cr : Nat) (hz : IsNat W (.agg #[.int .u64 xq, .slice pq lq cq]) Q) (hs : IsNat W (.agg #[.int .u64 xr, .slice pr lr cr]) Rm) (bq : Nat) (hbq : Var W bq (.int .u64 0) (.slice none 0 0)) (hbqn : w1.heap.size ≤ bq) (br : Nat) (hbr : Var W br (.int .u64 0) (.slice none 0 0)) (hbrn : w1.heap.size ≤ br) (hcd : bq ≠ br), R 5 #[true, true, true, true, true, true, true, false, true, false, true, true, false, false, false] { tmps := #[.agg #[.int .u64 x, .slice p l c], .slice pv xs.length cv, .slice (some ⟨pb, 0, none⟩) (k + 1) cp, .pointer (some ⟨w.heap.size, 0, none⟩), undef, undef, .slice none 0 0, undef, .int .i64 (k : Int), .pointer (some ⟨bq, 0, none⟩), .pointer (some ⟨br, 0, none⟩), undef, .slice (some ⟨pb, 0, none⟩) (k + 1) cp, .int .i64 ((k : Int) + 1), .bool false, undef, undef, undef, undef, undef, undef, undef, undef, undef, undef, undef, .slice (some ⟨pb, 0, none⟩) (k + 1) cp, .int .i64 ((k : Int) + 1), .int .i64 (k : Int), .tuple #[.agg #[.int .u64 xq, .slice pq lq cq], .agg #[.int .u64 xr, .slice pr lr cr], .bool true], .agg #[.int .u64 x, .slice p l c], .slice (some ⟨pb, 0, none⟩) (k + 1) cp, .int .i64 (k : Int), .pointer (some ⟨pb, k * 2, none⟩), .agg #[.int .u64 px, .slice pp pl pc], .tuple #[.agg #[.int .u64 xq, .slice pq lq cq], .agg #[.int .u64 xr, .slice pr lr cr], .bool true], undef, .agg #[.int .u64 xr, .slice pr lr cr], undef, undef, undef, undef, undef, undef, undef, undef, undef, undef, undef, undef, undef], defers := [] } W := by
   intro W acc xq pq lq cq xr pr lr cr hz hs bq hbq hbqn br hbr hbrn hcd
   rw [← hR]
   refine wpAnyIn_ready (rs := [7, 9]) (by kernel_rfl) (by simp) ?_
   refine AllReadyIn.cons rfl (fun K hK => ?_) ?_
   · go_simp
     refine hK _ _ ?_
     rw [hR]; exact H111111111011000 W acc xq pq lq cq xr pr lr cr hz hs bq hbq hbqn br hbr hbrn hcd
   refine AllReadyIn.cons rfl (fun K hK => ?_) ?_
   · go_simp
     refine hK _ _ ?_
     rw [hR]; exact H111111101111000 W acc xq pq lq cq xr pr lr cr hz hs bq hbq hbqn br hbr hbrn hcd
   exact AllReadyIn.nil
 have H111111101010000 : ∀ (W : World) (acc : Below w1.heap.size w1 W) (xq : Int) (pq : Option Addr) (lq cq : Nat) (xr : Int) (pr : Option Addr) (lr cr : Nat) (hz : IsNat W (.agg #[.int .u64 xq, .slice pq lq cq]) Q) (hs : IsNat W (.agg #[.int .u64 xr, .slice pr lr cr]) Rm) (bq : Nat) (hbq : Var W bq (.int .u64 0) (.slice none 0 0)) (hbqn : w1.heap.size ≤ bq), R 6 #[true, true, true, true, true, true, true, false, true, false, true, false, false, false, false] { tmps := #[.agg #[.int .u64 x, .slice p l c], .slice pv xs.length cv, .slice (some ⟨pb, 0, none⟩) (k + 1) cp, .pointer (some ⟨w.heap.size, 0, none⟩), undef, undef, .slice none 0 0, undef, .int .i64 (k : Int), .pointer (some ⟨bq, 0, none⟩), undef, undef, .slice (some ⟨pb, 0, none⟩) (k + 1) cp, .int .i64 ((k : Int) + 1), .bool false, undef, undef, undef, undef, undef, undef, undef, undef, undef, undef, undef, .slice (some ⟨pb, 0, none⟩) (k + 1) cp, .int .i64 ((k : Int) + 1), .int .i64 (k : Int), .tuple #[.agg #[.int .u64 xq, .slice pq lq cq], .agg #[.int .u64 xr, .slice pr lr cr], .bool true], .agg #[.int .u64 x, .slice p l c], .slice (some ⟨pb, 0, none⟩) (k + 1) cp, .int .i64 (k : Int), .pointer (some ⟨pb, k * 2, none⟩), .agg #[.int .u64 px, .slice pp pl pc], .tuple #[.agg #[.int .u64 xq, .slice pq lq cq], .agg #[.int .u64 xr, .slice pr lr cr], .bool true], undef, .agg #[.int .u64 xr, .slice pr lr cr], undef, undef, undef, undef, undef, undef, undef, undef, undef, undef, undef, undef, undef], defers := [] } W := by
   intro W acc xq pq lq cq xr pr lr cr hz hs bq hbq hbqn
   rw [← hR]
   refine wpAnyIn_ready (rs := [7, 9, 11]) (by kernel_rfl) (by simp) ?_
   refine AllReadyIn.cons rfl (fun K hK => ?_) ?_
   · go_simp
     refine hK _ _ ?_
     rw [hR]; exact H111111111010000 W acc xq pq lq cq xr pr lr cr hz hs bq hbq hbqn
   refine AllReadyIn.cons rfl (fun K hK => ?_) ?_
   · go_simp
     refine hK _ _ ?_
     rw [hR]; exact H111111101110000 W acc xq pq lq cq xr pr lr cr hz hs bq hbq hbqn
   refine AllReadyIn.cons rfl (fun K hK => ?_) ?_
   · go_simp
     refine hK _ _ ?_
     rw [hR]; exact H111111101011000 (W.alloc (.cells #[.int .u64 0, .slice none 0 0] 25)) (acc.alloc acc.size _) xq pq lq cq xr pr lr cr (hz.below ((Below.refl _ W).alloc (Nat.le_refl _) _)) (hs.below ((Below.refl _ W).alloc (Nat.le_refl _) _)) bq (hbq.alloc _) hbqn W.heap.size (Var.new W W.heap.size _ _ _ _ rfl) acc.size (Nat.ne_of_lt hbq.lt)
   exact AllReadyIn.nil
 have H111111101001000 : ∀ (W : World) (acc : Below w1.heap.size w1 W) (xq : Int) (pq : Option Addr) (lq cq : Nat) (xr : Int) (pr : Option Addr) (lr cr : Nat) (hz : IsNat W (.agg #[.int .u64 xq, .slice pq lq cq]) Q) (hs : IsNat W (.agg #[.int .u64 xr, .slice pr lr cr]) Rm) (br : Nat) (hbr : Var W br (.int .u64 0) (.slice none 0 0)) (hbrn : w1.heap.size ≤ br), R 6 #[true, true, true, true, true, true, true, false, true, false, false, true, false, false, false] { tmps := #[.agg #[.int .u64 x, .slice p l c], .slice pv xs.length cv, .slice (some ⟨pb, 0, none⟩) (k + 1) cp, .pointer (some ⟨w.heap.size, 0, none⟩), undef, undef, .slice none 0 0, undef, .int .i64 (k : Int), undef, .pointer (some ⟨br, 0, none⟩), undef, .slice (some ⟨pb, 0, none⟩) (k + 1) cp, .int .i64 ((k : Int) + 1), .bool false, undef, undef, undef, undef, undef, undef, undef, undef, undef, undef, undef, .slice (some ⟨pb, 0, none⟩) (k + 1) cp, .int .i64 ((k : Int) + 1), .int .i64 (k : Int), .tuple #[.agg #[.int .u64 xq, .slice pq lq cq], .agg #[.int .u64 xr, .slice pr lr cr], .bool true], .agg #[.int .u64 x, .slice p l c], .slice (some ⟨pb, 0, none⟩) (k + 1) cp, .int .i64 (k : Int), .pointer (some ⟨pb, k * 2, none⟩), .agg #[.int .u64 px, .slice pp pl pc], .tuple #[.agg #[.int .u64 xq, .slice pq lq cq], .agg #[.int .u64 xr, .slice pr lr cr], .bool true], undef, .agg #[.int .u64 xr, .slice pr lr cr], undef, undef, undef, undef, undef, undef, undef, undef, undef, undef, undef, undef, undef], defers := [] } W := by
   intro W acc xq pq lq cq xr pr lr cr hz hs br hbr hbrn
   rw [← hR]
   refine wpAnyIn_ready (rs := [7, 9, 10]) (by kernel_rfl) (by simp) ?_
   refine AllReadyIn.cons rfl (fun K hK => ?_) ?_
   · go_simp
     refine hK _ _ ?_
     rw [hR]; exact H111111111001000 W acc xq pq lq cq xr pr lr cr hz hs br hbr hbrn
   refine AllReadyIn.cons rfl (fun K hK => ?_) ?_
   · go_simp
     refine hK _ _ ?_
     rw [hR]; exact H111111101101000 W acc xq pq lq cq xr pr lr cr hz hs br hbr hbrn
   refine AllReadyIn.cons rfl (fun K hK => ?_) ?_
   · go_simp
     refine hK _ _ ?_
     rw [hR]; exact H111111101011000 (W.alloc (.cells #[.int .u64 0, .slice none 0 0] 25)) (acc.alloc acc.size _) xq pq lq cq xr pr lr cr (hz.below ((Below.refl _ W).alloc (Nat.le_refl _) _)) (hs.below ((Below.refl _ W).alloc (Nat.le_refl _) _)) W.heap.size (Var.new W W.heap.size _ _ _ _ rfl) acc.size br (hbr.alloc _) hbrn (Nat.ne_of_gt hbr.lt)
   exact AllReadyIn.nil
 have H111111101000000 : ∀ (W : World) (acc : Below w1.heap.size w1 W) (xq : Int) (pq : Option Addr) (lq cq : Nat) (xr : Int) (pr : Option Addr) (lr cr : Nat) (hz : IsNat W (.agg #[.int .u64 xq, .slice pq lq cq]) Q) (hs : IsNat W (.agg #[.int .u64 xr, .slice pr lr cr]) Rm), R 7 #[true, true, true, true, true, true, true, false, true, false, false, false, false, false, false] { tmps := #[.agg #[.int .u64 x, .slice p l c], .slice pv xs.length cv, .slice (some ⟨pb, 0, none⟩) (k + 1) cp, .pointer (some ⟨w.heap.size, 0, none⟩), undef, undef, .slice none 0 0, undef, .int .i64 (k : Int), undef, undef, undef, .slice (some ⟨pb, 0, none⟩) (k + 1) cp, .int .i64 ((k : Int) + 1), .bool false, undef, undef, undef, undef, undef, undef, undef, undef, undef, undef, undef, .slice (some ⟨pb, 0, none⟩) (k + 1) cp, .int .i64 ((k : Int) + 1), .int .i64 (k : Int), .tuple #[.agg #[.int .u64 xq, .slice pq lq cq], .agg #[.int .u64 xr, .slice pr lr cr], .bool true], .agg #[.int .u64 x, .slice p l c], .slice (some ⟨pb, 0, none⟩) (k + 1) cp, .int .i64 (k : Int), .pointer (some ⟨pb, k * 2, none⟩), .agg #[.int .u64 px, .slice pp pl pc], .tuple #[.agg #[.int .u64 xq, .slice pq lq cq], .agg #[.int .u64 xr, .slice pr lr cr], .bool true], undef, .agg #[.int .u64 xr, .slice pr lr cr], undef, undef, undef, undef, undef, undef, undef, undef, undef, undef, undef, undef, undef], defers := [] } W := by
   intro W acc xq pq lq cq xr pr lr cr hz hs
   rw [← hR]
   refine wpAnyIn_ready (rs := [7, 9, 10, 11]) (by kernel_rfl) (by simp) ?_
   refine AllReadyIn.cons rfl (fun K hK => ?_) ?_
   · go_simp
     refine hK _ _ ?_
     rw [hR]; exact H111111111000000 W acc xq pq lq cq xr pr lr cr hz hs
   refine AllReadyIn.cons rfl (fun K hK => ?_) ?_
   · go_simp
     refine hK _ _ ?_
     rw [hR]; exact H111111101100000 W acc xq pq lq cq xr pr lr cr hz hs
   refine AllReadyIn.cons rfl (fun K hK => ?_) ?_
   · go_simp
     refine hK _ _ ?_
     rw [hR]; exact H111111101010000 (W.alloc (.cells #[.int .u64 0, .slice none 0 0] 25)) (acc.alloc acc.size _) xq pq lq cq xr pr lr cr (hz.below ((Below.refl _ W).alloc (Nat.le_refl _) _)) (hs.below ((Below.refl _ W).alloc (Nat.le_refl _) _)) W.heap.size (Var.new W W.heap.size _ _ _ _ rfl) acc.size
   refine AllReadyIn.cons rfl (fun K hK => ?_) ?_
   · go_simp
     refine hK _ _ ?_
     rw [hR]; exact H111111101001000 (W.alloc (.cells #[.int .u64 0, .slice none 0 0] 25)) (acc.alloc acc.size _) xq pq lq cq xr pr lr cr (hz.below ((Below.refl _ W).alloc (Nat.le_refl _) _)) (hs.below ((Below.refl _ W).alloc (Nat.le_refl _) _)) W.heap.size (Var.new W W.heap.size _ _ _ _ rfl) acc.size
   exact AllReadyIn.nil
 have H111111100111000 : ∀ (W : World) (acc : Below w1.heap.size w1 W) (xq : Int) (pq : Option Addr) (lq cq : Nat) (xr : Int) (pr : Option Addr) (lr cr : Nat) (hz : IsNat W (.agg #[.int .u64 xq, .slice pq lq cq]) Q) (hs : IsNat W (.agg #[.int .u64 xr, .slice pr lr cr]) Rm) (bq : Nat) (hbq : Var W bq (.int .u64 0) (.slice none 0 0)) (hbqn : w1.heap.size ≤ bq) (br : Nat) (hbr : Var W br (.int .u64 0) (.slice none 0 0)) (hbrn : w1.heap.size ≤ br) (hcd : bq ≠ br), R 5 #[true, true, true, true, true, true, true, false, false, true, true, true, false, false, false] { tmps := #[.agg #[.int .u64 x, .slice p l c], .slice pv xs.length cv, .slice (some ⟨pb, 0, none⟩) (k + 1) cp, .pointer (some ⟨w.heap.size, 0, none⟩), undef, undef, .slice none 0 0, undef, .int .i64 (k : Int), .pointer (some ⟨bq, 0, none⟩), .pointer (some ⟨br, 0, none⟩), undef, .slice (some ⟨pb, 0, none⟩) (k + 1) cp, .int .i64 ((k : Int) + 1), .bool false, undef, undef, undef, undef, undef, undef, undef, undef, undef, undef, undef, .slice (some ⟨pb, 0, none⟩) (k + 1) cp, .int .i64 ((k : Int) + 1), .int .i64 (k : Int), .tuple #[.agg #[.int .u64 xq, .slice pq lq cq], .agg #[.int .u64 xr, .slice pr lr cr], .bool true], .agg #[.int .u64 x, .slice p l c], .slice (some ⟨pb, 0, none⟩) (k + 1) cp, .int .i64 (k : Int), .pointer (some ⟨pb, k * 2, none⟩), .agg #[.int .u64 px, .slice pp pl pc], .tuple #[.agg #[.int .u64 xq, .slice pq lq cq], .agg #[.int .u64 xr, .slice pr lr cr], .bool true], undef, undef, .bool true, undef, undef, undef, undef, undef, undef, undef, undef, undef, undef, undef, undef], defers := [] } W := by
   intro W acc xq pq lq cq xr pr lr cr hz hs bq hbq hbqn br hbr hbrn hcd
   rw [← hR]
   refine wpAnyIn_ready (rs := [7, 8]) (by kernel_rfl) (by simp) ?_
   refine AllReadyIn.cons rfl (fun K hK => ?_) ?_
   · go_simp
     refine hK _ _ ?_
     rw [hR]; exact H111111110111000 W acc xq pq lq cq xr pr lr cr hz hs bq hbq hbqn br hbr hbrn hcd
   refine AllReadyIn.cons rfl (fun K hK => ?_) ?_
   · go_simp
     refine hK _ _ ?_
     rw [hR]; exact H111111101111000 W acc xq pq lq cq xr pr lr cr hz hs bq hbq hbqn br hbr hbrn hcd
   exact AllReadyIn.nil
 have H111111100110000 : ∀ (W : World) (acc : Below w1.heap.size w1 W) (xq : Int) (pq : Option Addr) (lq cq : Nat) (xr : Int) (pr : Option Addr) (lr cr : Nat) (hz : IsNat W (.agg #[.int .u64 xq, .slice pq lq cq]) Q) (hs : IsNat W (.agg #[.int .u64 xr, .slice pr lr cr]) Rm) (bq : Nat) (hbq : Var W bq (.int .u64 0) (.slice none 0 0)) (hbqn : w1.heap.size ≤ bq), R 6 #[true, true, true, true, true, true, true, false, false, true, true, false, false, false, false] { tmps := #[.agg #[.int .u64 x, .slice p l c], .slice pv xs.length cv, .slice (some ⟨pb, 0, none⟩) (k + 1) cp, .pointer (some ⟨w.heap.size, 0, none⟩), undef, undef, .slice none 0 0, undef, .int .i64 (k : Int), .pointer (some ⟨bq, 0, none⟩), undef, undef, .slice (some ⟨pb, 0, none⟩) (k + 1) cp, .int .i64 ((k : Int) + 1), .bool false, undef, undef, undef, undef, undef, undef, undef, undef, undef, undef, undef, .slice (some ⟨pb, 0, none⟩) (k + 1) cp, .int .i64 ((k : Int) + 1), .int .i64 (k : Int), .tuple #[.agg #[.int .u64 xq, .slice pq lq cq], .agg #[.int .u64 xr, .slice pr lr cr], .bool true], .agg #[.int .u64 x, .slice p l c], .slice (some ⟨pb, 0, none⟩) (k + 1) cp, .int .i64 (k : Int), .pointer (some ⟨pb, k * 2, none⟩), .agg #[.int .u64 px, .slice pp pl pc], .tuple #[.agg #[.int .u64 xq, .slice pq lq cq], .agg #[.int .u64 xr, .slice pr lr cr], .bool true], undef, undef, .bool true, undef, undef, undef, undef, undef, undef, undef, undef, undef, undef, undef, undef], defers := [] } W := by
   intro W acc xq pq lq cq xr pr lr cr hz hs bq hbq hbqn
   rw [← hR]
   refine wpAnyIn_ready (rs := [7, 8, 11]) (by kernel_rfl) (by simp) ?_
   refine AllReadyIn.cons rfl (fun K hK => ?_) ?_
   · go_simp
     refine hK _ _ ?_
     rw [hR]; exact H111111110110000 W acc xq pq lq cq xr pr lr cr hz hs bq hbq hbqn
   refine AllReadyIn.cons rfl (fun K hK => ?_) ?_
   · go_simp
     refine hK _ _ ?_
     rw [hR]; exact H111111101110000 W acc xq pq lq cq xr pr lr cr hz hs bq hbq hbqn
   refine AllReadyIn.cons rfl (fun K hK => ?_) ?_
   · go_simp
     refine hK _ _ ?_
     rw [hR]; exact H111111100111000 (W.alloc (.cells #[.int .u64 0, .slice none 0 0] 25)) (acc.alloc acc.size _) xq pq lq cq xr pr lr cr (hz.below ((Below.refl _ W).alloc (Nat.le_refl _) _)) (hs.below ((Below.refl _ W).alloc (Nat.le_refl _) _)) bq (hbq.alloc _) hbqn W.heap.size (Var.new W W.heap.size _ _ _ _ rfl) acc.size (Nat.ne_of_lt hbq.lt)
   exact AllReadyIn.nil
 have H111111100101000 : ∀ (W : World) (acc : Below w1.heap.size w1 W) (xq : Int) (pq : Option Addr) (lq cq : Nat) (xr : Int) (pr : Option Addr) (lr cr : Nat) (hz : IsNat W (.agg #[.int .u64 xq, .slice pq lq cq]) Q) (hs : IsNat W (.agg #[.int .u64 xr, .slice pr lr cr]) Rm) (br : Nat) (hbr : Var W br (.int .u64 0) (.slice none 0 0)) (hbrn : w1.heap.size ≤ br), R 6 #[true, true, true, true, true, true, true, false, false, true, false, true, false, false, false] { tmps := #[.agg #[.int .u64 x, .slice p l c], .slice pv xs.length cv, .slice (some ⟨pb, 0, none⟩) (k + 1) cp, .pointer (some ⟨w.heap.size, 0, none⟩), undef, undef, .slice none 0 0, undef, .int .i64 (k : Int), undef, .pointer (some ⟨br, 0, none⟩), undef, .slice (some ⟨pb, 0, none⟩) (k + 1) cp, .int .i64 ((k : Int) + 1), .bool false, undef, undef, undef, undef, undef, undef, undef, undef, undef, undef, undef, .slice (some ⟨pb, 0, none⟩) (k + 1) cp, .int .i64 ((k : Int) + 1), .int .i64 (k : Int), .tuple #[.agg #[.int .u64 xq, .slice pq lq cq], .agg #[.int .u64 xr, .slice pr lr cr], .bool true], .agg #[.int .u64 x, .slice p l c], .slice (some ⟨pb, 0, none⟩) (k + 1) cp, .int .i64 (k : Int), .pointer (some ⟨pb, k * 2, none⟩), .agg #[.int .u64 px, .slice pp pl pc], .tuple #[.agg #[.int .u64 xq, .slice pq lq cq], .agg #[.int .u64 xr, .slice pr lr cr], .bool true], undef, undef, .bool true, undef, undef, undef, undef, undef, undef, undef, undef, undef, undef, undef, undef], defers := [] } W := by
   intro W acc xq pq lq cq xr pr lr cr hz hs br hbr hbrn
   rw [← hR]
   refine wpAnyIn_ready (rs := [7, 8, 10]) (by kernel_rfl) (by simp) ?_
   refine AllReadyIn.cons rfl (fun K hK => ?_) ?_
   · go_simp
     refine hK _ _ ?_
     rw [hR]; exact H111111110101000 W acc xq pq lq cq xr pr lr cr hz hs br hbr hbrn
   refine AllReadyIn.cons rfl (fun K hK => ?_) ?_
   · go_simp
     refine hK _ _ ?_
     rw [hR]; exact H111111101101000 W acc xq pq lq cq xr pr lr cr hz hs br hbr hbrn
   refine AllReadyIn.cons rfl (fun K hK => ?_) ?_
   · go_simp
     refine hK _ _ ?_
     rw [hR]; exact H111111100111000 (W.alloc (.cells #[.int .u64 0, .slice none 0 0] 25)) (acc.alloc acc.size _) xq pq lq cq xr pr lr cr (hz.below ((Below.refl _ W).alloc (Nat.le_refl _) _)) (hs.below ((Below.refl _ W).alloc (Nat.le_refl _) _)) W.heap.size (Var.new W W.heap.size _ _ _ _ rfl) acc.size br (hbr.alloc _) hbrn (Nat.ne_of_gt hbr.lt)
   exact AllReadyIn.nil
 have H111111100100000 : ∀ (W : World) (acc : Below w1.heap.size w1 W) (xq : Int) (pq : Option Addr) (lq cq : Nat) (xr : Int) (pr : Option Addr) (lr cr : Nat) (hz : IsNat W (.agg #[.int .u64 xq, .slice pq lq cq]) Q) (hs : IsNat W (.agg #[.int .u64 xr, .slice pr lr cr]) Rm), R 7 #[true, true, true, true, true, true, true, false, false, true, false, false, false, false, false] { tmps := #[.agg #[.int .u64 x, .slice p l c], .slice pv xs.length cv, .slice (some ⟨pb, 0, none⟩) (k + 1) cp, .pointer (some ⟨w.heap.size, 0, none⟩), undef, undef, .slice none 0 0, undef, .int .i64 (k : Int), undef, undef, undef, .slice (some ⟨pb, 0, none⟩) (k + 1) cp, .int .i64 ((k : Int) + 1), .bool false, undef, undef, undef, undef, undef, undef, undef, undef, undef, undef, undef, .slice (some ⟨pb, 0, none⟩) (k + 1) cp, .int .i64 ((k : Int) + 1), .int .i64 (k : Int), .tuple #[.agg #[.int .u64 xq, .slice pq lq cq], .agg #[.int .u64 xr, .slice pr lr cr], .bool true], .agg #[.int .u64 x, .slice p l c], .slice (some ⟨pb, 0, none⟩) (k + 1) cp, .int .i64 (k : Int), .pointer (some ⟨pb, k * 2, none⟩), .agg #[.int .u64 px, .slice pp pl pc], .tuple #[.agg #[.int .u64 xq, .slice pq lq cq], .agg #[.int .u64 xr, .slice pr lr cr], .bool true], undef, undef, .bool true, undef, undef, undef, undef, undef, undef, undef, undef, undef, undef, undef, undef], defers := [] } W := by
   intro W acc xq pq lq cq xr pr lr cr hz hs
   rw [← hR]
   refine wpAnyIn_ready (rs := [7, 8, 10, 11]) (by kernel_rfl) (by simp) ?_
   refine AllReadyIn.cons rfl (fun K hK => ?_) ?_
   · go_simp
     refine hK _ _ ?_
     rw [hR]; exact H111111110100000 W acc xq pq lq cq xr pr lr cr hz hs
   refine AllReadyIn.cons rfl (fun K hK => ?_) ?_
   · go_simp
     refine hK _ _ ?_
     rw [hR]; exact H111111101100000 W acc xq pq lq cq xr pr lr cr hz hs
   refine AllReadyIn.cons rfl (fun K hK => ?_) ?_
   · go_simp
     refine hK _ _ ?_
     rw [hR]; exact H111111100110000 (W.alloc (.cells #[.int .u64 0, .slice none 0 0] 25)) (acc.alloc acc.size _) xq pq lq cq xr pr lr cr (hz.below ((Below.refl _ W).alloc (Nat.le_refl _) _)) (hs.below ((Below.refl _ W).alloc (Nat.le_refl _) _)) W.heap.size (Var.new W W.heap.size _ _ _ _ rfl) acc.size
   refine AllReadyIn.cons rfl (fun K hK => ?_) ?_
   · go_simp
     refine hK _ _ ?_
     rw [hR]; exact H111111100101000 (W.alloc (.cells #[.int .u64 0, .slice none 0 0] 25)) (acc.alloc acc.size _) xq pq lq cq xr pr lr cr (hz.below ((Below.refl _ W).alloc (Nat.le_refl _) _)) (hs.below ((Below.refl _ W).alloc (Nat.le_refl _) _)) W.heap.size (Var.new W W.heap.size _ _ _ _ rfl) acc.size
   exact AllReadyIn.nil
 have H111111100011000 : ∀ (W : World) (acc : Below w1.heap.size w1 W) (xq : Int) (pq : Option Addr) (lq cq : Nat) (xr : Int) (pr : Option Addr) (lr cr : Nat) (hz : IsNat W (.agg #[.int .u64 xq, .slice pq lq cq]) Q) (hs : IsNat W (.agg #[.int .u64 xr, .slice pr lr cr]) Rm) (bq : Nat) (hbq : Var W bq (.int .u64 0) (.slice none 0 0)) (hbqn : w1.heap.size ≤ bq) (br : Nat) (hbr : Var W br (.int .u64 0) (.slice none 0 0)) (hbrn : w1.heap.size ≤ br) (hcd : bq ≠ br), R 6 #[true, true, true, true, true, true, true, false, false, false, true, true, false, false, false] { tmps := #[.agg #[.int .u64 x, .slice p l c], .slice pv xs.length cv, .slice (some ⟨pb, 0, none⟩) (k + 1) cp, .pointer (some ⟨w.heap.size, 0, none⟩), undef, undef, .slice none 0 0, undef, .int .i64 (k : Int), .pointer (some ⟨bq, 0, none⟩), .pointer (some ⟨br, 0, none⟩), undef, .slice (some ⟨pb, 0, none⟩) (k + 1) cp, .int .i64 ((k : Int) + 1), .bool false, undef, undef, undef, undef, undef, undef, undef, undef, undef, undef, undef, .slice (some ⟨pb, 0, none⟩) (k + 1) cp, .int .i64 ((k : Int) + 1), .int .i64 (k : Int), .tuple #[.agg #[.int .u64 xq, .slice pq lq cq], .agg #[.int .u64 xr, .slice pr lr cr], .bool true], .agg #[.int .u64 x, .slice p l c], .slice (some ⟨pb, 0, none⟩) (k + 1) cp, .int .i64 (k : Int), .pointer (some ⟨pb, k * 2, none⟩), .agg #[.int .u64 px, .slice pp pl pc], .tuple #[.agg #[.int .u64 xq, .slice pq lq cq], .agg #[.int .u64 xr, .slice pr lr cr], .bool true], undef, undef, undef, undef, undef, undef, undef, undef, undef, undef, undef, undef, undef, undef, undef], defers := [] } W := by
   intro W acc xq pq lq cq xr pr lr cr hz hs bq hbq hbqn br hbr hbrn hcd
   rw [← hR]
   refine wpAnyIn_ready (rs := [7, 8, 9]) (by kernel_rfl) (by simp) ?_
   refine AllReadyIn.cons rfl (fun K hK => ?_) ?_
   · go_simp
     refine hK _ _ ?_
     rw [hR]; exact H111111110011000 W acc xq pq lq cq xr pr lr cr hz hs bq hbq hbqn br hbr hbrn hcd
   refine AllReadyIn.cons rfl (fun K hK => ?_) ?_
   · go_simp
     refine hK _ _ ?_
     rw [hR]; exact H111111101011000 W acc xq pq lq cq xr pr lr cr hz hs bq hbq hbqn br hbr hbrn hcd
   refine AllReadyIn.cons rfl (fun K hK => ?_) ?_
   · go_simp
     refine hK _ _ ?_
     rw [hR]; exact H111111100111000 W acc xq pq lq cq xr pr lr cr hz hs bq hbq hbqn br hbr hbrn hcd
   exact AllReadyIn.nil
 have H111111100010000 : ∀ (W : World) (acc : Below w1.heap.size w1 W) (xq : Int) (pq : Option Addr) (lq cq : Nat) (xr : Int) (pr : Option Addr) (lr cr : Nat) (hz : IsNat W (.agg #[.int .u64 xq, .slice pq lq cq]) Q) (hs : IsNat W (.agg #[.int .u64 xr, .slice pr lr cr]) Rm) (bq : Nat) (hbq : Var W bq (.int .u64 0) (.slice none 0 0)) (hbqn : w1.heap.size ≤ bq), R 7 #[true, true, true, true, true, true, true, false, false, false, true, false, false, false, false] { tmps := #[.agg #[.int .u64 x, .slice p l c], .slice pv xs.length cv, .slice (some ⟨pb, 0, none⟩) (k + 1) cp, .pointer (some ⟨w.heap.size, 0, none⟩), undef, undef, .slice none 0 0, undef, .int .i64 (k : Int), .pointer (some ⟨bq, 0, none⟩), undef, undef, .slice (some ⟨pb, 0, none⟩) (k + 1) cp, .int .i64 ((k : Int) + 1), .bool false, undef, undef, undef, undef, undef, undef, undef, undef, undef, undef, undef, .slice (some ⟨pb, 0, none⟩) (k + 1) cp, .int .i64 ((k : Int) + 1), .int .i64 (k : Int), .tuple #[.agg #[.int .u64 xq, .slice pq lq cq], .agg #[.int .u64 xr, .slice pr lr cr], .bool true], .agg #[.int .u64 x, .slice p l c], .slice (some ⟨pb, 0, none⟩) (k + 1) cp, .int .i64 (k : Int), .pointer (some ⟨pb, k * 2, none⟩), .agg #[.int .u64 px, .slice pp pl pc], .tuple #[.agg #[.int .u64 xq, .slice pq lq cq], .agg #[.int .u64 xr, .slice pr lr cr], .bool true], undef, undef, undef, undef, undef, undef, undef, undef, undef, undef, undef, undef, undef, undef, undef], defers := [] } W := by
   intro W acc xq pq lq cq xr pr lr cr hz hs bq hbq hbqn
   rw [← hR]
   refine wpAnyIn_ready (rs := [7, 8, 9, 11]) (by kernel_rfl) (by simp) ?_
   refine AllReadyIn.cons rfl (fun K hK => ?_) ?_
   · go_simp
     refine hK _ _ ?_
     rw [hR]; exact H111111110010000 W acc xq pq lq cq xr pr lr cr hz hs bq hbq hbqn
   refine AllReadyIn.cons rfl (fun K hK => ?_) ?_
   · go_simp
     refine hK _ _ ?_
     rw [hR]; exact H111111101010000 W acc xq pq lq cq xr pr lr cr hz hs bq hbq hbqn
   refine AllReadyIn.cons rfl (fun K hK => ?_) ?_
   · go_simp
     refine hK _ _ ?_
     rw [hR]; exact H111111100110000 W acc xq pq lq cq xr pr lr cr hz hs bq hbq hbqn
   refine AllReadyIn.cons rfl (fun K hK => ?_) ?_
   · go_simp
     refine hK _ _ ?_
     rw [hR]; exact H111111100011000 (W.alloc (.cells #[.int .u64 0, .slice none 0 0] 25)) (acc.alloc acc.size _) xq pq lq cq xr pr lr cr (hz.below ((Below.refl _ W).alloc (Nat.le_refl _) _)) (hs.below ((Below.refl _ W).alloc (Nat.le_refl _) _)) bq (hbq.alloc _) hbqn W.heap.size (Var.new W W.heap.size _ _ _ _ rfl) acc.size (Nat.ne_of_lt hbq.lt)
   exact AllReadyIn.nil
 have H111111100001000 : ∀ (W : World) (acc : Below w1.heap.size w1 W) (xq : Int) (pq : Option Addr) (lq cq : Nat) (xr : Int) (pr : Option Addr) (lr cr : Nat) (hz : IsNat W (.agg #[.int .u64 xq, .slice pq lq cq]) Q) (hs : IsNat W (.agg #[.int .u64 xr, .slice pr lr cr]) Rm) (br : Nat) (hbr : Var W br (.int .u64 0) (.slice none 0 0)) (hbrn : w1.heap.size ≤ br), R 7 #[true, true, true, true, true, true, true, false, false, false, false, true, false, false, false] { tmps := #[.agg #[.int .u64 x, .slice p l c], .slice pv xs.length cv, .slice (some ⟨pb, 0, none⟩) (k + 1) cp, .pointer (some ⟨w.heap.size, 0, none⟩), undef, undef, .slice none 0 0, undef, .int .i64 (k : Int), undef, .pointer (some ⟨br, 0, none⟩), undef, .slice (some ⟨pb, 0, none⟩) (k + 1) cp, .int .i64 ((k : Int) + 1), .bool false, undef, undef, undef, undef, undef, undef, undef, undef, undef, undef, undef, .slice (some ⟨pb, 0, none⟩) (k + 1) cp, .int .i64 ((k : Int) + 1), .int .i64 (k : Int), .tuple #[.agg #[.int .u64 xq, .slice pq lq cq], .agg #[.int .u64 xr, .slice pr lr cr], .bool true], .agg #[.int .u64 x, .slice p l c], .slice (some ⟨pb, 0, none⟩) (k + 1) cp, .int .i64 (k : Int), .pointer (some ⟨pb, k * 2, none⟩), .agg #[.int .u64 px, .slice pp pl pc], .tuple #[.agg #[.int .u64 xq, .slice pq lq cq], .agg #[.int .u64 xr, .slice pr lr cr], .bool true], undef, undef, undef, undef, undef, undef, undef, undef, undef, undef, undef, undef, undef, undef, undef], defers := [] } W := by
   intro W acc xq pq lq cq xr pr lr cr hz hs br hbr hbrn
   rw [← hR]
   refine wpAnyIn_ready (rs := [7, 8, 9, 10]) (by kernel_rfl) (by simp) ?_
   refine AllReadyIn.cons rfl (fun K hK => ?_) ?_
   · go_simp
     refine hK _ _ ?_
     rw [hR]; exact H111111110001000 W acc xq pq lq cq xr pr lr cr hz hs br hbr hbrn
   refine AllReadyIn.cons rfl (fun K hK => ?_) ?_
   · go_simp
     refine hK _ _ ?_
     rw [hR]; exact H111111101001000 W acc xq pq lq cq xr pr lr cr hz hs br hbr hbrn
   refine AllReadyIn.cons rfl (fun K hK => ?_) ?_
   · go_simp
     refine hK _ _ ?_
     rw [hR]; exact H111111100101000 W acc xq pq lq cq xr pr lr cr hz hs br hbr hbrn
   refine AllReadyIn.cons rfl (fun K hK => ?_) ?_
   · go_simp
     refine hK _ _ ?_
     rw [hR]; exact H111111100011000 (W.alloc (.cells #[.int .u64 0, .slice none 0 0] 25)) (acc.alloc acc.size _) xq pq lq cq xr pr lr cr (hz.below ((Below.refl _ W).alloc (Nat.le_refl _) _)) (hs.below ((Below.refl _ W).alloc (Nat.le_refl _) _)) W.heap.size (Var.new W W.heap.size _ _ _ _ rfl) acc.size br (hbr.alloc _) hbrn (Nat.ne_of_gt hbr.lt)
   exact AllReadyIn.nil
 have H111111100000000 : ∀ (W : World) (acc : Below w1.heap.size w1 W) (xq : Int) (pq : Option Addr) (lq cq : Nat) (xr : Int) (pr : Option Addr) (lr cr : Nat) (hz : IsNat W (.agg #[.int .u64 xq, .slice pq lq cq]) Q) (hs : IsNat W (.agg #[.int .u64 xr, .slice pr lr cr]) Rm), R 8 #[true, true, true, true, true, true, true, false, false, false, false, false, false, false, false] { tmps := #[.agg #[.int .u64 x, .slice p l c], .slice pv xs.length cv, .slice (some ⟨pb, 0, none⟩) (k + 1) cp, .pointer (some ⟨w.heap.size, 0, none⟩), undef, undef, .slice none 0 0, undef, .int .i64 (k : Int), undef, undef, undef, .slice (some ⟨pb, 0, none⟩) (k + 1) cp, .int .i64 ((k : Int) + 1), .bool false, undef, undef, undef, undef, undef, undef, undef, undef, undef, undef, undef, .slice (some ⟨pb, 0, none⟩) (k + 1) cp, .int .i64 ((k : Int) + 1), .int .i64 (k : Int), .tuple #[.agg #[.int .u64 xq, .slice pq lq cq], .agg #[.int .u64 xr, .slice pr lr cr], .bool true], .agg #[.int .u64 x, .slice p l c], .slice (some ⟨pb, 0, none⟩) (k + 1) cp, .int .i64 (k : Int), .pointer (some ⟨pb, k * 2, none⟩), .agg #[.int .u64 px, .slice pp pl pc], .tuple #[.agg #[.int .u64 xq, .slice pq lq cq], .agg #[.int .u64 xr, .slice pr lr cr], .bool true], undef, undef, undef, undef, undef, undef, undef, undef, undef, undef, undef, undef, undef, undef, undef], defers := [] } W := by
   intro W acc xq pq lq cq xr pr lr cr hz hs
   rw [← hR]
   refine wpAnyIn_ready (rs := [7, 8, 9, 10, 11]) (by kernel_rfl) (by simp) ?_
   refine AllReadyIn.cons rfl (fun K hK => ?_) ?_
   · go_simp
     refine hK _ _ ?_
     rw [hR]; exact H111111110000000 W acc xq pq lq cq xr pr lr cr hz hs
   refine AllReadyIn.cons rfl (fun K hK => ?_) ?_
   · go_simp
     refine hK _ _ ?_
     rw [hR]; exact H111111101000000 W acc xq pq lq cq xr pr lr cr hz hs
   refine AllReadyIn.cons rfl (fun K hK => ?_) ?_
   · go_simp
     refine hK _ _ ?_
     rw [hR]; exact H111111100100000 W acc xq pq lq cq xr pr lr cr hz hs
   refine AllReadyIn.cons rfl (fun K hK => ?_) ?_
   · go_simp
     refine hK _ _ ?_
     rw [hR]; exact H111111100010000 (W.alloc (.cells #[.int .u64 0, .slice none 0 0] 25)) (acc.alloc acc.size _) xq pq lq cq xr pr lr cr (hz.below ((Below.refl _ W).alloc (Nat.le_refl _) _)) (hs.below ((Below.refl _ W).alloc (Nat.le_refl _) _)) W.heap.size (Var.new W W.heap.size _ _ _ _ rfl) acc.size
   refine AllReadyIn.cons rfl (fun K hK => ?_) ?_
   · go_simp
     refine hK _ _ ?_
     rw [hR]; exact H111111100001000 (W.alloc (.cells #[.int .u64 0, .slice none 0 0] 25)) (acc.alloc acc.size _) xq pq lq cq xr pr lr cr (hz.below ((Below.refl _ W).alloc (Nat.le_refl _) _)) (hs.below ((Below.refl _ W).alloc (Nat.le_refl _) _)) W.heap.size (Var.new W W.heap.size _ _ _ _ rfl) acc.size
   exact AllReadyIn.nil
 have H111111000011000 : ∀ (W : World) (acc : Below w1.heap.size w1 W) (xq : Int) (pq : Option Addr) (lq cq : Nat) (xr : Int) (pr : Option Addr) (lr cr : Nat) (hz : IsNat W (.agg #[.int .u64 xq, .slice pq lq cq]) Q) (hs : IsNat W (.agg #[.int .u64 xr, .slice pr lr cr]) Rm) (bq : Nat) (hbq : Var W bq (.int .u64 0) (.slice none 0 0)) (hbqn : w1.heap.size ≤ bq) (br : Nat) (hbr : Var W br (.int .u64 0) (.slice none 0 0)) (hbrn : w1.heap.size ≤ br) (hcd : bq ≠ br), R 7 #[true, true, true, true, true, true, false, false, false, false, true, true, false, false, false] { tmps := #[.agg #[.int .u64 x, .slice p l c], .slice pv xs.length cv, .slice (some ⟨pb, 0, none⟩) (k + 1) cp, .pointer (some ⟨w.heap.size, 0, none⟩), undef, undef, .slice none 0 0, undef, .int .i64 (k : Int), .pointer (some ⟨bq, 0, none⟩), .pointer (some ⟨br, 0, none⟩), undef, .slice (some ⟨pb, 0, none⟩) (k + 1) cp, .int .i64 ((k : Int) + 1), .bool false, undef, undef, undef, undef, undef, undef, undef, undef, undef, undef, undef, .slice (some ⟨pb, 0, none⟩) (k + 1) cp, .int .i64 ((k : Int) + 1), .int .i64 (k : Int), undef, .agg #[.int .u64 x, .slice p l c], .slice (some ⟨pb, 0, none⟩) (k + 1) cp, .int .i64 (k : Int), .pointer (some ⟨pb, k * 2, none⟩), .agg #[.int .u64 px, .slice pp pl pc], .tuple #[.agg #[.int .u64 xq, .slice pq lq cq], .agg #[.int .u64 xr, .slice pr lr cr], .bool true], undef, undef, undef, undef, undef, undef, undef, undef, undef, undef, undef, undef, undef, undef, undef], defers := [] } W := by
   intro W acc xq pq lq cq xr pr lr cr hz hs bq hbq hbqn br hbr hbrn hcd
   rw [← hR]
   refine wpAnyIn_ready (rs := [6]) (by kernel_rfl) (by simp) ?_
   refine AllReadyIn.cons rfl (fun K hK => ?_) ?_
   · go_simp
     refine hK _ _ ?_
     rw [hR]; exact H111111100011000 W acc xq pq lq cq xr pr lr cr hz hs bq hbq hbqn br hbr hbrn hcd
   exact AllReadyIn.nil
 have H111111000010000 : ∀ (W : World) (acc : Below w1.heap.size w1 W) (xq : Int) (pq : Option Addr) (lq cq : Nat) (xr : Int) (pr : Option Addr) (lr cr : Nat) (hz : IsNat W (.agg #[.int .u64 xq, .slice pq lq cq]) Q) (hs : IsNat W (.agg #[.int .u64 xr, .slice pr lr cr]) Rm) (bq : Nat) (hbq : Var W bq (.int .u64 0) (.slice none 0 0)) (hbqn : w1.heap.size ≤ bq), R 8 #[true, true, true, true, true, true, false, false, false, false, true, false, false, false, false] { tmps := #[.agg #[.int .u64 x, .slice p l c], .slice pv xs.length cv, .slice (some ⟨pb, 0, none⟩) (k + 1) cp, .pointer (some ⟨w.heap.size, 0, none⟩), undef, undef, .slice none 0 0, undef, .int .i64 (k : Int), .pointer (some ⟨bq, 0, none⟩), undef, undef, .slice (some ⟨pb, 0, none⟩) (k + 1) cp, .int .i64 ((k : Int) + 1), .bool false, undef, undef, undef, undef, undef, undef, undef, undef, undef, undef, undef, .slice (some ⟨pb, 0, none⟩) (k + 1) cp, .int .i64 ((k : Int) + 1), .int .i64 (k : Int), undef, .agg #[.int .u64 x, .slice p l c], .slice (some ⟨pb, 0, none⟩) (k + 1) cp, .int .i64 (k : Int), .pointer (some ⟨pb, k * 2, none⟩), .agg #[.int .u64 px, .slice pp pl pc], .tuple #[.agg #[.int .u64 xq, .slice pq lq cq], .agg #[.int .u64 xr, .slice pr lr cr], .bool true], undef, undef, undef, undef, undef, undef, undef, undef, undef, undef, undef, undef, undef, undef, undef], defers := [] } W := by
   intro W acc xq pq lq cq xr pr lr cr hz hs bq hbq hbqn
   rw [← hR]
   refine wpAnyIn_ready (rs := [6, 11]) (by kernel_rfl) (by simp) ?_
   refine AllReadyIn.cons rfl (fun K hK => ?_) ?_
   · go_simp
     refine hK _ _ ?_
     rw [hR]; exact H111111100010000 W acc xq pq lq cq xr pr lr cr hz hs bq hbq hbqn
   refine AllReadyIn.cons rfl (fun K hK => ?_) ?_
   · go_simp
     refine hK _ _ ?_
     rw [hR]; exact H111111000011000 (W.alloc (.cells #[.int .u64 0, .slice none 0 0] 25)) (acc.alloc acc.size _) xq pq lq cq xr pr lr cr (hz.below ((Below.refl _ W).alloc (Nat.le_refl _) _)) (hs.below ((Below.refl _ W).alloc (Nat.le_refl _) _)) bq (hbq.alloc _) hbqn W.heap.size (Var.new W W.heap.size _ _ _ _ rfl) acc.size (Nat.ne_of_lt hbq.lt)
   exact AllReadyIn.nil
 have H111111000001000 : ∀ (W : World) (acc : Below w1.heap.size w1 W) (xq : Int) (pq : Option Addr) (lq cq : Nat) (xr : Int) (pr : Option Addr) (lr cr : Nat) (hz : IsNat W (.agg #[.int .u64 xq, .slice pq lq cq]) Q) (hs : IsNat W (.agg #[.int .u64 xr, .slice pr lr cr]) Rm) (br : Nat) (hbr : Var W br (.int .u64 0) (.slice none 0 0)) (hbrn : w1.heap.size ≤ br), R 8 #[true, true, true, true, true, true, false, false, false, false, false, true, false, false, false] { tmps := #[.agg #[.int .u64 x, .slice p l c], .slice pv xs.length cv, .slice (some ⟨pb, 0, none⟩) (k + 1) cp, .pointer (some ⟨w.heap.size, 0, none⟩), undef, undef, .slice none 0 0, undef, .int .i64 (k : Int), undef, .pointer (some ⟨br, 0, none⟩), undef, .slice (some ⟨pb, 0, none⟩) (k + 1) cp, .int .i64 ((k : Int) + 1), .bool false, undef, undef, undef, undef, undef, undef, undef, undef, undef, undef, undef, .slice (some ⟨pb, 0, none⟩) (k + 1) cp, .int .i64 ((k : Int) + 1), .int .i64 (k : Int), undef, .agg #[.int .u64 x, .slice p l c], .slice (some ⟨pb, 0, none⟩) (k + 1) cp, .int .i64 (k : Int), .pointer (some ⟨pb, k * 2, none⟩), .agg #[.int .u64 px, .slice pp pl pc], .tuple #[.agg #[.int .u64 xq, .slice pq lq cq], .agg #[.int .u64 xr, .slice pr lr cr], .bool true], undef, undef, undef, undef, undef, undef, undef, undef, undef, undef, undef, undef, undef, undef, undef], defers := [] } W := by
   intro W acc xq pq lq cq xr pr lr cr hz hs br hbr hbrn
   rw [← hR]
   refine wpAnyIn_ready (rs := [6, 10]) (by kernel_rfl) (by simp) ?_
   refine AllReadyIn.cons rfl (fun K hK => ?_) ?_
   · go_simp
     refine hK _ _ ?_
     rw [hR]; exact H111111100001000 W acc xq pq lq cq xr pr lr cr hz hs br hbr hbrn
   refine AllReadyIn.cons rfl (fun K hK => ?_) ?_
   · go_simp
     refine hK _ _ ?_
     rw [hR]; exact H111111000011000 (W.alloc (.cells #[.int .u64 0, .slice none 0 0] 25)) (acc.alloc acc.size _) xq pq lq cq xr pr lr cr (hz.below ((Below.refl _ W).alloc (Nat.le_refl _) _)) (hs.below ((Below.refl _ W).alloc (Nat.le_refl _) _)) W.heap.size (Var.new W W.heap.size _ _ _ _ rfl) acc.size br (hbr.alloc _) hbrn (Nat.ne_of_gt hbr.lt)
   exact AllReadyIn.nil
 have H111111000000000 : ∀ (W : World) (acc : Below w1.heap.size w1 W) (xq : Int) (pq : Option Addr) (lq cq : Nat) (xr : Int) (pr : Option Addr) (lr cr : Nat) (hz : IsNat W (.agg #[.int .u64 xq, .slice pq lq cq]) Q) (hs : IsNat W (.agg #[.int .u64 xr, .slice pr lr cr]) Rm), R 9 #[true, true, true, true, true, true, false, false, false, false, false, false, false, false, false] { tmps := #[.agg #[.int .u64 x, .slice p l c], .slice pv xs.length cv, .slice (some ⟨pb, 0, none⟩) (k + 1) cp, .pointer (some ⟨w.heap.size, 0, none⟩), undef, undef, .slice none 0 0, undef, .int .i64 (k : Int), undef, undef, undef, .slice (some ⟨pb, 0, none⟩) (k + 1) cp, .int .i64 ((k : Int) + 1), .bool false, undef, undef, undef, undef, undef, undef, undef, undef, undef, undef, undef, .slice (some ⟨pb, 0, none⟩) (k + 1) cp, .int .i64 ((k : Int) + 1), .int .i64 (k : Int), undef, .agg #[.int .u64 x, .slice p l c], .slice (some ⟨pb, 0, none⟩) (k + 1) cp, .int .i64 (k : Int), .pointer (some ⟨pb, k * 2, none⟩), .agg #[.int .u64 px, .slice pp pl pc], .tuple #[.agg #[.int .u64 xq, .slice pq lq cq], .agg #[.int .u64 xr, .slice pr lr cr], .bool true], undef, undef, undef, undef, undef, undef, undef, undef, undef, undef, undef, undef, undef, undef, undef], defers := [] } W := by
   intro W acc xq pq lq cq xr pr lr cr hz hs
   rw [← hR]
   refine wpAnyIn_ready (rs := [6, 10, 11]) (by kernel_rfl) (by simp) ?_
   refine AllReadyIn.cons rfl (fun K hK => ?_) ?_
   · go_simp
     refine hK _ _ ?_
     rw [hR]; exact H111111100000000 W acc xq pq lq cq xr pr lr cr hz hs
   refine AllReadyIn.cons rfl (fun K hK => ?_) ?_
   · go_simp
     refine hK _ _ ?_
     rw [hR]; exact H111111000010000 (W.alloc (.cells #[.int .u64 0, .slice none 0 0] 25)) (acc.alloc acc.size _) xq pq lq cq xr pr lr cr (hz.below ((Below.refl _ W).alloc (Nat.le_refl _) _)) (hs.below ((Below.refl _ W).alloc (Nat.le_refl _) _)) W.heap.size (Var.new W W.heap.size _ _ _ _ rfl) acc.size
   refine AllReadyIn.cons rfl (fun K hK => ?_) ?_
   · go_simp
     refine hK _ _ ?_
     rw [hR]; exact H111111000001000 (W.alloc (.cells #[.int .u64 0, .slice none 0 0] 25)) (acc.alloc acc.size _) xq pq lq cq xr pr lr cr (hz.below ((Below.refl _ W).alloc (Nat.le_refl _) _)) (hs.below ((Below.refl _ W).alloc (Nat.le_refl _) _)) W.heap.size (Var.new W W.heap.size _ _ _ _ rfl) acc.size
   exact AllReadyIn.nil
 have H111110000011000 : ∀ (W : World) (acc : Below w1.heap.size w1 W) (bq : Nat) (hbq : Var W bq (.int .u64 0) (.slice none 0 0)) (hbqn : w1.heap.size ≤ bq) (br : Nat) (hbr : Var W br (.int .u64 0) (.slice none 0 0)) (hbrn : w1.heap.size ≤ br) (hcd : bq ≠ br), R 8 #[true, true, true, true, true, false, false, false, false, false, true, true, false, false, false] { tmps := #[.agg #[.int .u64 x, .slice p l c], .slice pv xs.length cv, .slice (some ⟨pb, 0, none⟩) (k + 1) cp, .pointer (some ⟨w.heap.size, 0, none⟩), undef, undef, .slice none 0 0, undef, .int .i64 (k : Int), .pointer (some ⟨bq, 0, none⟩), .pointer (some ⟨br, 0, none⟩), undef, .slice (some ⟨pb, 0, none⟩) (k + 1) cp, .int .i64 ((k : Int) + 1), .bool false, undef, undef, undef, undef, undef, undef, undef, undef, undef, undef, undef, .slice (some ⟨pb, 0, none⟩) (k + 1) cp, .int .i64 ((k : Int) + 1), .int .i64 (k : Int), undef, .agg #[.int .u64 x, .slice p l c], .slice (some ⟨pb, 0, none⟩) (k + 1) cp, .int .i64 (k : Int), .pointer (some ⟨pb, k * 2, none⟩), .agg #[.int .u64 px, .slice pp pl pc], undef, undef, undef, undef, undef, undef, undef, undef, undef, undef, undef, undef, undef, undef, undef, undef], defers := [] } W := by
   intro W acc bq hbq hbqn br hbr hbrn hcd
   rw [← hR]
   refine wpAnyIn_ready (rs := [5]) (by kernel_rfl) (by simp) ?_
   refine AllReadyIn.cons rfl (fun K hK => ?_) ?_
   · go_simp
     gi_wp2_with (refine ⟨trivial, ?_⟩; gi_at_call 7; refine (callsIn_wide.2 (dv W (ha.below acc) (hpn.below acc))).mono ?_; rintro e W2 ⟨z, s, rfl, hz, hs, hb⟩; obtain ⟨xq, pq, lq, cq, rfl⟩ := hz.shape; obtain ⟨xr, pr, lr, cr, rfl⟩ := hs.shape)
     rw [hR]; exact H111111000011000 W2 (below_acc acc acc.size hb) xq pq lq cq xr pr lr cr hz hs bq (hbq.below hb hbq.lt) hbqn br (hbr.below hb hbr.lt) hbrn hcd
   exact AllReadyIn.nil
 have H111110000010000 : ∀ (W : World) (acc : Below w1.heap.size w1 W) (bq : Nat) (hbq : Var W bq (.int .u64 0) (.slice none 0 0)) (hbqn : w1.heap.size ≤ bq), R 9 #[true, true, true, true, true, false, false, false, false, false, true, false, false, false, false] { tmps := #[.agg #[.int .u64 x, .slice p l c], .slice pv xs.length cv, .slice (some ⟨pb, 0, none⟩) (k + 1) cp, .pointer (some ⟨w.heap.size, 0, none⟩), undef, undef, .slice none 0 0, undef, .int .i64 (k : Int), .pointer (some ⟨bq, 0, none⟩), undef, undef, .slice (some ⟨pb, 0, none⟩) (k + 1) cp, .int .i64 ((k : Int) + 1), .bool false, undef, undef, undef, undef, undef, undef, undef, undef, undef, undef, undef, .slice (some ⟨pb, 0, none⟩) (k + 1) cp, .int .i64 ((k : Int) + 1), .int .i64 (k : Int), undef, .agg #[.int .u64 x, .slice p l c], .slice (some ⟨pb, 0, none⟩) (k + 1) cp, .int .i64 (k : Int), .pointer (some ⟨pb, k * 2, none⟩), .agg #[.int .u64 px, .slice pp pl pc], undef, undef, undef, undef, undef, undef, undef, undef, undef, undef, undef, undef, undef, undef, undef, undef], defers := [] } W := by
   intro W acc bq hbq hbqn
   rw [← hR]
   refine wpAnyIn_ready (rs := [5, 11]) (by kernel_rfl) (by simp) ?_
   refine AllReadyIn.cons rfl (fun K hK => ?_) ?_
   · go_simp
     gi_wp2_with (refine ⟨trivial, ?_⟩; gi_at_call 7; refine (callsIn_wide.2 (dv W (ha.below acc) (hpn.below acc))).mono ?_; rintro e W2 ⟨z, s, rfl, hz, hs, hb⟩; obtain ⟨xq, pq, lq, cq, rfl⟩ := hz.shape; obtain ⟨xr, pr, lr, cr, rfl⟩ := hs.shape)
     rw [hR]; exact H111111000010000 W2 (below_acc acc acc.size hb) xq pq lq cq xr pr lr cr hz hs bq (hbq.below hb hbq.lt) hbqn
   refine AllReadyIn.cons rfl (fun K hK => ?_) ?_
   · go_simp
     refine hK _ _ ?_
     rw [hR]; exact H111110000011000 (W.alloc (.cells #[.int .u64 0, .slice none 0 0] 25)) (acc.alloc acc.size _) bq (hbq.alloc _) hbqn W.heap.size (Var.new W W.heap.size _ _ _ _ rfl) acc.size (Nat.ne_of_lt hbq.lt)
   exact AllReadyIn.nil
 have H111110000001000 : ∀ (W : World) (acc : Below w1.heap.size w1 W) (br : Nat) (hbr : Var W br (.int .u64 0) (.slice none 0 0)) (hbrn : w1.heap.size ≤ br), R 9 #[true, true, true, true, true, false, false, false, false, false, false, true, false, false, false] { tmps := #[.agg #[.int .u64 x, .slice p l c], .slice pv xs.length cv, .slice (some ⟨pb, 0, none⟩) (k + 1) cp, .pointer (some ⟨w.heap.size, 0, none⟩), undef, undef, .slice none 0 0, undef, .int .i64 (k : Int), undef, .pointer (some ⟨br, 0, none⟩), undef, .slice (some ⟨pb, 0, none⟩) (k + 1) cp, .int .i64 ((k : Int) + 1), .bool false, undef, undef, undef, undef, undef, undef, undef, undef, undef, undef, undef, .slice (some ⟨pb, 0, none⟩) (k + 1) cp, .int .i64 ((k : Int) + 1), .int .i64 (k : Int), undef, .agg #[.int .u64 x, .slice p l c], .slice (some ⟨pb, 0, none⟩) (k + 1) cp, .int .i64 (k : Int), .pointer (some ⟨pb, k * 2, none⟩), .agg #[.int .u64 px, .slice pp pl pc], undef, undef, undef, undef, undef, undef, undef, undef, undef, undef, undef, undef, undef, undef, undef, undef], defers := [] } W := by
   intro W acc br hbr hbrn
   rw [← hR]
   refine wpAnyIn_ready (rs := [5, 10]) (by kernel_rfl) (by simp) ?_
   refine AllReadyIn.cons rfl (fun K hK => ?_) ?_
   · go_simp
     gi_wp2_with (refine ⟨trivial, ?_⟩; gi_at_call 7; refine (callsIn_wide.2 (dv W (ha.below acc) (hpn.below acc))).mono ?_; rintro e W2 ⟨z, s, rfl, hz, hs, hb⟩; obtain ⟨xq, pq, lq, cq, rfl⟩ := hz.shape; obtain ⟨xr, pr, lr, cr, rfl⟩ := hs.shape)
     rw [hR]; exact H111111000001000 W2 (below_acc acc acc.size hb) xq pq lq cq xr pr lr cr hz hs br (hbr.below hb hbr.lt) hbrn
   refine AllReadyIn.cons rfl (fun K hK => ?_) ?_
   · go_simp
     refine hK _ _ ?_
     rw [hR]; exact H111110000011000 (W.alloc (.cells #[.int .u64 0, .slice none 0 0] 25)) (acc.alloc acc.size _) W.heap.size (Var.new W W.heap.size _ _ _ _ rfl) acc.size br (hbr.alloc _) hbrn (Nat.ne_of_gt hbr.lt)
   exact AllReadyIn.nil
 have H111110000000000 : ∀ (W : World) (acc : Below w1.heap.size w1 W), R 10 #[true, true, true, true, true, false, false, false, false, false, false, false, false, false, false] { tmps := #[.agg #[.int .u64 x, .slice p l c], .slice pv xs.length cv, .slice (some ⟨pb, 0, none⟩) (k + 1) cp, .pointer (some ⟨w.heap.size, 0, none⟩), undef, undef, .slice none 0 0, undef, .int .i64 (k : Int), undef, undef, undef, .slice (some ⟨pb, 0, none⟩) (k + 1) cp, .int .i64 ((k : Int) + 1), .bool false, undef, undef, undef, undef, undef, undef, undef, undef, undef, undef, undef, .slice (some ⟨pb, 0, none⟩) (k + 1) cp, .int .i64 ((k : Int) + 1), .int .i64 (k : Int), undef, .agg #[.int .u64 x, .slice p l c], .slice (some ⟨pb, 0, none⟩) (k + 1) cp, .int .i64 (k : Int), .pointer (some ⟨pb, k * 2, none⟩), .agg #[.int .u64 px, .slice pp pl pc], undef, undef, undef, undef, undef, undef, undef, undef, undef, undef, undef, undef, undef, undef, undef, undef], defers := [] } W := by
   intro W acc
   rw [← hR]
   refine wpAnyIn_ready (rs := [5, 10, 11]) (by kernel_rfl) (by simp) ?_
   refine AllReadyIn.cons rfl (fun K hK => ?_) ?_
   · go_simp
     gi_wp2_with (refine ⟨trivial, ?_⟩; gi_at_call 7; refine (callsIn_wide.2 (dv W (ha.below acc) (hpn.below acc))).mono ?_; rintro e W2 ⟨z, s, rfl, hz, hs, hb⟩; obtain ⟨xq, pq, lq, cq, rfl⟩ := hz.shape; obtain ⟨xr, pr, lr, cr, rfl⟩ := hs.shape)
     rw [hR]; exact H111111000000000 W2 (below_acc acc acc.size hb) xq pq lq cq xr pr lr cr hz hs
   refine AllReadyIn.cons rfl (fun K hK => ?_) ?_
   · go_simp
     refine hK _ _ ?_
     rw [hR]; exact H111110000010000 (W.alloc (.cells #[.int .u64 0, .slice none 0 0] 25)) (acc.alloc acc.size _) W.heap.size (Var.new W W.heap.size _ _ _ _ rfl) acc.size
   refine AllReadyIn.cons rfl (fun K hK => ?_) ?_
   · go_simp
     refine hK _ _ ?_
     rw [hR]; exact H111110000001000 (W.alloc (.cells #[.int .u64 0, .slice none 0 0] 25)) (acc.alloc acc.size _) W.heap.size (Var.new W W.heap.size _ _ _ _ rfl) acc.size
   exact AllReadyIn.nil
 have H111100000011000 : ∀ (W : World) (acc : Below w1.heap.size w1 W) (bq : Nat) (hbq : Var W bq (.int .u64 0) (.slice none 0 0)) (hbqn : w1.heap.size ≤ bq) (br : Nat) (hbr : Var W br (.int .u64 0) (.slice none 0 0)) (hbrn : w1.heap.size ≤ br) (hcd : bq ≠ br), R 9 #[true, true, true, true, false, false, false, false, false, false, true, true, false, false, false] { tmps := #[.agg #[.int .u64 x, .slice p l c], .slice pv xs.length cv, .slice (some ⟨pb, 0, none⟩) (k + 1) cp, .pointer (some ⟨w.heap.size, 0, none⟩), undef, undef, .slice none 0 0, undef, .int .i64 (k : Int), .pointer (some ⟨bq, 0, none⟩), .pointer (some ⟨br, 0, none⟩), undef, .slice (some ⟨pb, 0, none⟩) (k + 1) cp, .int .i64 ((k : Int) + 1), .bool false, undef, undef, undef, undef, undef, undef, undef, undef, undef, undef, undef, .slice (some ⟨pb, 0, none⟩) (k + 1) cp, .int .i64 ((k : Int) + 1), .int .i64 (k : Int), undef, .agg #[.int .u64 x, .slice p l c], .slice (some ⟨pb, 0, none⟩) (k + 1) cp, .int .i64 (k : Int), .pointer (some ⟨pb, k * 2, none⟩), undef, undef, undef, undef, undef, undef, undef, undef, undef, undef, undef, undef, undef, undef, undef, undef, undef], defers := [] } W := by
   intro W acc bq hbq hbqn br hbr hbrn hcd
   rw [← hR]
   have q0 := (bcell acc).1 pb (k * 2) lpb1 ▸ q0
   have q1 := (bcell acc).1 pb (k * 2 + 1) lpb1 ▸ q1
   refine wpAnyIn_ready (rs := [4]) (by kernel_rfl) (by simp) ?_
   refine AllReadyIn.cons rfl (fun K hK => ?_) ?_
   · go_simp
     refine hK _ _ ?_
     rw [hR]; exact H111110000011000 W acc bq hbq hbqn br hbr hbrn hcd
   exact AllReadyIn.nil
 have H111100000010000 : ∀ (W : World) (acc : Below w1.heap.size w1 W) (bq : Nat) (hbq : Var W bq (.int .u64 0) (.slice none 0 0)) (hbqn : w1.heap.size ≤ bq), R 10 #[true, true, true, true, false, false, false, false, false, false, true, false, false, false, false] { tmps := #[.agg #[.int .u64 x, .slice p l c], .slice pv xs.length cv, .slice (some ⟨pb, 0, none⟩) (k + 1) cp, .pointer (some ⟨w.heap.size, 0, none⟩), undef, undef, .slice none 0 0, undef, .int .i64 (k : Int), .pointer (some ⟨bq, 0, none⟩), undef, undef, .slice (some ⟨pb, 0, none⟩) (k + 1) cp, .int .i64 ((k : Int) + 1), .bool false, undef, undef, undef, undef, undef, undef, undef, undef, undef, undef, undef, .slice (some ⟨pb, 0, none⟩) (k + 1) cp, .int .i64 ((k : Int) + 1), .int .i64 (k : Int), undef, .agg #[.int .u64 x, .slice p l c], .slice (some ⟨pb, 0, none⟩) (k + 1) cp, .int .i64 (k : Int), .pointer (some ⟨pb, k * 2, none⟩), undef, undef, undef, undef, undef, undef, undef, undef, undef, undef, undef, undef, undef, undef, undef, undef, undef], defers := [] } W := by
   intro W acc bq hbq hbqn
   rw [← hR]
   have q0 := (bcell acc).1 pb (k * 2) lpb1 ▸ q0
   have q1 := (bcell acc).1 pb (k * 2 + 1) lpb1 ▸ q1
   refine wpAnyIn_ready (rs := [4, 11]) (by kernel_rfl) (by simp) ?_
   refine AllReadyIn.cons rfl (fun K hK => ?_) ?_
   · go_simp
     refine hK _ _ ?_
     rw [hR]; exact H111110000010000 W acc bq hbq hbqn
   refine AllReadyIn.cons rfl (fun K hK => ?_) ?_
   · go_simp
     refine hK _ _ ?_
     rw [hR]; exact H111100000011000 (W.alloc (.cells #[.int .u64 0, .slice none 0 0] 25)) (acc.alloc acc.size _) bq (hbq.alloc _) hbqn W.heap.size (Var.new W W.heap.size _ _ _ _ rfl) acc.size (Nat.ne_of_lt hbq.lt)
   exact AllReadyIn.nil
 have H111100000001000 : ∀ (W : World) (acc : Below w1.heap.size w1 W) (br : Nat) (hbr : Var W br (.int .u64 0) (.slice none 0 0)) (hbrn : w1.heap.size ≤ br), R 10 #[true, true, true, true, false, false, false, false, false, false, false, true, false, false, false] { tmps := #[.agg #[.int .u64 x, .slice p l c], .slice pv xs.length cv, .slice (some ⟨pb, 0, none⟩) (k + 1) cp, .pointer (some ⟨w.heap.size, 0, none⟩), undef, undef, .slice none 0 0, undef, .int .i64 (k : Int), undef, .pointer (some ⟨br, 0, none⟩), undef, .slice (some ⟨pb, 0, none⟩) (k + 1) cp, .int .i64 ((k : Int) + 1), .bool false, undef, undef, undef, undef, undef, undef, undef, undef, undef, undef, undef, .slice (some ⟨pb, 0, none⟩) (k + 1) cp, .int .i64 ((k : Int) + 1), .int .i64 (k : Int), undef, .agg #[.int .u64 x, .slice p l c], .slice (some ⟨pb, 0, none⟩) (k + 1) cp, .int .i64 (k : Int), .pointer (some ⟨pb, k * 2, none⟩), undef, undef, undef, undef, undef, undef, undef, undef, undef, undef, undef, undef, undef, undef, undef, undef, undef], defers := [] } W := by
   intro W acc br hbr hbrn
   rw [← hR]
   have q0 := (bcell acc).1 pb (k * 2) lpb1 ▸ q0
   have q1 := (bcell acc).1 pb (k * 2 + 1) lpb1 ▸ q1
   refine wpAnyIn_ready (rs := [4, 10]) (by kernel_rfl) (by simp) ?_
   refine AllReadyIn.cons rfl (fun K hK => ?_) ?_
   · go_simp
     refine hK _ _ ?_
     rw [hR]; exact H111110000001000 W acc br hbr hbrn
   refine AllReadyIn.cons rfl (fun K hK => ?_) ?_
   · go_simp
     refine hK _ _ ?_
     rw [hR]; exact H111100000011000 (W.alloc (.cells #[.int .u64 0, .slice none 0 0] 25)) (acc.alloc acc.size _) W.heap.size (Var.new W W.heap.size _ _ _ _ rfl) acc.size br (hbr.alloc _) hbrn (Nat.ne_of_gt hbr.lt)
   exact AllReadyIn.nil
 have H111100000000000 : ∀ (W : World) (acc : Below w1.heap.size w1 W), R 11 #[true, true, true, true, false, false, false, false, false, false, false, false, false, false, false] { tmps := #[.agg #[.int .u64 x, .slice p l c], .slice pv xs.length cv, .slice (some ⟨pb, 0, none⟩) (k + 1) cp, .pointer (some ⟨w.heap.size, 0, none⟩), undef, undef, .slice none 0 0, undef, .int .i64 (k : Int), undef, undef, undef, .slice (some ⟨pb, 0, none⟩) (k + 1) cp, .int .i64 ((k : Int) + 1), .bool false, undef, undef, undef, undef, undef, undef, undef, undef, undef, undef, undef, .slice (some ⟨pb, 0, none⟩) (k + 1) cp, .int .i64 ((k : Int) + 1), .int .i64 (k : Int), undef, .agg #[.int .u64 x, .slice p l c], .slice (some ⟨pb, 0, none⟩) (k + 1) cp, .int .i64 (k : Int), .pointer (some ⟨pb, k * 2, none⟩), undef, undef, undef, undef, undef, undef, undef, undef, undef, undef, undef, undef, undef, undef, undef, undef, undef], defers := [] } W := by
   intro W acc
   rw [← hR]
   have q0 := (bcell acc).1 pb (k * 2) lpb1 ▸ q0
   have q1 := (bcell acc).1 pb (k * 2 + 1) lpb1 ▸ q1
   refine wpAnyIn_ready (rs := [4, 10, 11]) (by kernel_rfl) (by simp) ?_
   refine AllReadyIn.cons rfl (fun K hK => ?_) ?_
   · go_simp
     refine hK _ _ ?_
     rw [hR]; exact H111110000000000 W acc
   refine AllReadyIn.cons rfl (fun K hK => ?_) ?_
   · go_simp
     refine hK _ _ ?_
     rw [hR]; exact H111100000010000 (W.alloc (.cells #[.int .u64 0, .slice none 0 0] 25)) (acc.alloc acc.size _) W.heap.size (Var.new W W.heap.size _ _ _ _ rfl) acc.size
   refine AllReadyIn.cons rfl (fun K hK => ?_) ?_
   · go_simp
     refine hK _ _ ?_
     rw [hR]; exact H111100000001000 (W.alloc (.cells #[.int .u64 0, .slice none 0 0] 25)) (acc.alloc acc.size _) W.heap.size (Var.new W W.heap.size _ _ _ _ rfl) acc.size
   exact AllReadyIn.nil
 have H111000000011000 : ∀ (W : World) (acc : Below w1.heap.size w1 W) (bq : Nat) (hbq : Var W bq (.int .u64 0) (.slice none 0 0)) (hbqn : w1.heap.size ≤ bq) (br : Nat) (hbr : Var W br (.int .u64 0) (.slice none 0 0)) (hbrn : w1.heap.size ≤ br) (hcd : bq ≠ br), R 10 #[true, true, true, false, false, false, false, false, false, false, true, true, false, false, false] { tmps := #[.agg #[.int .u64 x, .slice p l c], .slice pv xs.length cv, .slice (some ⟨pb, 0, none⟩) (k + 1) cp, .pointer (some ⟨w.heap.size, 0, none⟩), undef, undef, .slice none 0 0, undef, .int .i64 (k : Int), .pointer (some ⟨bq, 0, none⟩), .pointer (some ⟨br, 0, none⟩), undef, .slice (some ⟨pb, 0, none⟩) (k + 1) cp, .int .i64 ((k : Int) + 1), .bool false, undef, undef, undef, undef, undef, undef, undef, undef, undef, undef, undef, .slice (some ⟨pb, 0, none⟩) (k + 1) cp, .int .i64 ((k : Int) + 1), .int .i64 (k : Int), undef, .agg #[.int .u64 x, .slice p l c], .slice (some ⟨pb, 0, none⟩) (k + 1) cp, .int .i64 (k : Int), undef, undef, undef, undef, undef, undef, undef, undef, undef, undef, undef, undef, undef, undef, undef, undef, undef, undef], defers := [] } W := by
   intro W acc bq hbq hbqn br hbr hbrn hcd
   rw [← hR]
   have q0 := (bcell acc).1 pb (k * 2) lpb1 ▸ q0
   have q1 := (bcell acc).1 pb (k * 2 + 1) lpb1 ▸ q1
   refine wpAnyIn_ready (rs := [3]) (by kernel_rfl) (by simp) ?_
   refine AllReadyIn.cons rfl (fun K hK => ?_) ?_
   · go_simp
     refine hK _ _ ?_
     rw [hR]; exact H111100000011000 W acc bq hbq hbqn br hbr hbrn hcd
   exact AllReadyIn.nil
 have H111000000010000 : ∀ (W : World) (acc : Below w1.heap.size w1 W) (bq : Nat) (hbq : Var W bq (.int .u64 0) (.slice none 0 0)) (hbqn : w1.heap.size ≤ bq), R 11 #[true, true, true, false, false, false, false, false, false, false, true, false, false, false, false] { tmps := #[.agg #[.int .u64 x, .slice p l c], .slice pv xs.length cv, .slice (some ⟨pb, 0, none⟩) (k + 1) cp, .pointer (some ⟨w.heap.size, 0, none⟩), undef, undef, .slice none 0 0, undef, .int .i64 (k : Int), .pointer (some ⟨bq, 0, none⟩), undef, undef, .slice (some ⟨pb, 0, none⟩) (k + 1) cp, .int .i64 ((k : Int) + 1), .bool false, undef, undef, undef, undef, undef, undef, undef, undef, undef, undef, undef, .slice (some ⟨pb, 0, none⟩) (k + 1) cp, .int .i64 ((k : Int) + 1), .int .i64 (k : Int), undef, .agg #[.int .u64 x, .slice p l c], .slice (some ⟨pb, 0, none⟩) (k + 1) cp, .int .i64 (k : Int), undef, undef, undef, undef, undef, undef, undef, undef, undef, undef, undef, undef, undef, undef, undef, undef, undef, undef], defers := [] } W := by
   intro W acc bq hbq hbqn
   rw [← hR]
   have q0 := (bcell acc).1 pb (k * 2) lpb1 ▸ q0
   have q1 := (bcell acc).1 pb (k * 2 + 1) lpb1 ▸ q1
   refine wpAnyIn_ready (rs := [3, 11]) (by kernel_rfl) (by simp) ?_
   refine AllReadyIn.cons rfl (fun K hK => ?_) ?_
   · go_simp
     refine hK _ _ ?_
     rw [hR]; exact H111100000010000 W acc bq hbq hbqn
   refine AllReadyIn.cons rfl (fun K hK => ?_) ?_
   · go_simp
     refine hK _ _ ?_
     rw [hR]; exact H111000000011000 (W.alloc (.cells #[.int .u64 0, .slice none 0 0] 25)) (acc.alloc acc.size _) bq (hbq.alloc _) hbqn W.heap.size (Var.new W W.heap.size _ _ _ _ rfl) acc.size (Nat.ne_of_lt hbq.lt)
   exact AllReadyIn.nil
 have H111000000001000 : ∀ (W : World) (acc : Below w1.heap.size w1 W) (br : Nat) (hbr : Var W br (.int .u64 0) (.slice none 0 0)) (hbrn : w1.heap.size ≤ br), R 11 #[true, true, true, false, false, false, false, false, false, false, false, true, false, false, false] { tmps := #[.agg #[.int .u64 x, .slice p l c], .slice pv xs.length cv, .slice (some ⟨pb, 0, none⟩) (k + 1) cp, .pointer (some ⟨w.heap.size, 0, none⟩), undef, undef, .slice none 0 0, undef, .int .i64 (k : Int), undef, .pointer (some ⟨br, 0, none⟩), undef, .slice (some ⟨pb, 0, none⟩) (k + 1) cp, .int .i64 ((k : Int) + 1), .bool false, undef, undef, undef, undef, undef, undef, undef, undef, undef, undef, undef, .slice (some ⟨pb, 0, none⟩) (k + 1) cp, .int .i64 ((k : Int) + 1), .int .i64 (k : Int), undef, .agg #[.int .u64 x, .slice p l c], .slice (some ⟨pb, 0, none⟩) (k + 1) cp, .int .i64 (k : Int), undef, undef, undef, undef, undef, undef, undef, undef, undef, undef, undef, undef, undef, undef, undef, undef, undef, undef], defers := [] } W := by
   intro W acc br hbr hbrn
   rw [← hR]
   have q0 := (bcell acc).1 pb (k * 2) lpb1 ▸ q0
   have q1 := (bcell acc).1 pb (k * 2 + 1) lpb1 ▸ q1
   refine wpAnyIn_ready (rs := [3, 10]) (by kernel_rfl) (by simp) ?_
   refine AllReadyIn.cons rfl (fun K hK => ?_) ?_
   · go_simp
     refine hK _ _ ?_
     rw [hR]; exact H111100000001000 W acc br hbr hbrn
   refine AllReadyIn.cons rfl (fun K hK => ?_) ?_
   · go_simp
     refine hK _ _ ?_
     rw [hR]; exact H111000000011000 (W.alloc (.cells #[.int .u64 0, .slice none 0 0] 25)) (acc.alloc acc.size _) W.heap.size (Var.new W W.heap.size _ _ _ _ rfl) acc.size br (hbr.alloc _) hbrn (Nat.ne_of_gt hbr.lt)
   exact AllReadyIn.nil
 have H111000000000000 : ∀ (W : World) (acc : Below w1.heap.size w1 W), R 12 #[true, true, true, false, false, false, false, false, false, false, false, false, false, false, false] { tmps := #[.agg #[.int .u64 x, .slice p l c], .slice pv xs.length cv, .slice (some ⟨pb, 0, none⟩) (k + 1) cp, .pointer (some ⟨w.heap.size, 0, none⟩), undef, undef, .slice none 0 0, undef, .int .i64 (k : Int), undef, undef, undef, .slice (some ⟨pb, 0, none⟩) (k + 1) cp, .int .i64 ((k : Int) + 1), .bool false, undef, undef, undef, undef, undef, undef, undef, undef, undef, undef, undef, .slice (some ⟨pb, 0, none⟩) (k + 1) cp, .int .i64 ((k : Int) + 1), .int .i64 (k : Int), undef, .agg #[.int .u64 x, .slice p l c], .slice (some ⟨pb, 0, none⟩) (k + 1) cp, .int .i64 (k : Int), undef, undef, undef, undef, undef, undef, undef, undef, undef, undef, undef, undef, undef, undef, undef, undef, undef, undef], defers := [] } W := by
   intro W acc
   rw [← hR]
   have q0 := (bcell acc).1 pb (k * 2) lpb1 ▸ q0
   have q1 := (bcell acc).1 pb (k * 2 + 1) lpb1 ▸ q1
   refine wpAnyIn_ready (rs := [3, 10, 11]) (by kernel_rfl) (by simp) ?_
   refine AllReadyIn.cons rfl (fun K hK => ?_) ?_
   · go_simp
     refine hK _ _ ?_
     rw [hR]; exact H111100000000000 W acc
   refine AllReadyIn.cons rfl (fun K hK => ?_) ?_
   · go_simp
     refine hK _ _ ?_
     rw [hR]; exact H111000000010000 (W.alloc (.cells #[.int .u64 0, .slice none 0 0] 25)) (acc.alloc acc.size _) W.heap.size (Var.new W W.heap.size _ _ _ _ rfl) acc.size
   refine AllReadyIn.cons rfl (fun K hK => ?_) ?_
   · go_simp
     refine hK _ _ ?_
     rw [hR]; exact H111000000001000 (W.alloc (.cells #[.int .u64 0, .slice none 0 0] 25)) (acc.alloc acc.size _) W.heap.size (Var.new W W.heap.size _ _ _ _ rfl) acc.size
   exact AllReadyIn.nil
 have H110000000011000 : ∀ (W : World) (acc : Below w1.heap.size w1 W) (bq : Nat) (hbq : Var W bq (.int .u64 0) (.slice none 0 0)) (hbqn : w1.heap.size ≤ bq) (br : Nat) (hbr : Var W br (.int .u64 0) (.slice none 0 0)) (hbrn : w1.heap.size ≤ br) (hcd : bq ≠ br), R 11 #[true, true, false, false, false, false, false, false, false, false, true, true, false, false, false] { tmps := #[.agg #[.int .u64 x, .slice p l c], .slice pv xs.length cv, .slice (some ⟨pb, 0, none⟩) (k + 1) cp, .pointer (some ⟨w.heap.size, 0, none⟩), undef, undef, .slice none 0 0, undef, .int .i64 (k : Int), .pointer (some ⟨bq, 0, none⟩), .pointer (some ⟨br, 0, none⟩), undef, .slice (some ⟨pb, 0, none⟩) (k + 1) cp, .int .i64 ((k : Int) + 1), .bool false, undef, undef, undef, undef, undef, undef, undef, undef, undef, undef, undef, .slice (some ⟨pb, 0, none⟩) (k + 1) cp, .int .i64 ((k : Int) + 1), .int .i64 (k : Int), undef, .agg #[.int .u64 x, .slice p l c], .slice (some ⟨pb, 0, none⟩) (k + 1) cp, undef, undef, undef, undef, undef, undef, undef, undef, undef, undef, undef, undef, undef, undef, undef, undef, undef, undef, undef], defers := [] } W := by
   intro W acc bq hbq hbqn br hbr hbrn hcd
   rw [← hR]
   have q0 := (bcell acc).1 pb (k * 2) lpb1 ▸ q0
   have q1 := (bcell acc).1 pb (k * 2 + 1) lpb1 ▸ q1
   refine wpAnyIn_ready (rs := [2]) (by kernel_rfl) (by simp) ?_
   refine AllReadyIn.cons rfl (fun K hK => ?_) ?_
   · go_simp
     refine hK _ _ ?_
     rw [hR]; exact H111000000011000 W acc bq hbq hbqn br hbr hbrn hcd
   exact AllReadyIn.nil
 have H110000000010000 : ∀ (W : World) (acc : Below w1.heap.size w1 W) (bq : Nat) (hbq : Var W bq (.int .u64 0) (.slice none 0 0)) (hbqn : w1.heap.size ≤ bq), R 12 #[true, true, false, false, false, false, false, false, false, false, true, false, false, false, false] { tmps := #[.agg #[.int .u64 x, .slice p l c], .slice pv xs.length cv, .slice (some ⟨pb, 0, none⟩) (k + 1) cp, .pointer (some ⟨w.heap.size, 0, none⟩), undef, undef, .slice none 0 0, undef, .int .i64 (k : Int), .pointer (some ⟨bq, 0, none⟩), undef, undef, .slice (some ⟨pb, 0, none⟩) (k + 1) cp, .int .i64 ((k : Int) + 1), .bool false, undef, undef, undef, undef, undef, undef, undef, undef, undef, undef, undef, .slice (some ⟨pb, 0, none⟩) (k + 1) cp, .int .i64 ((k : Int) + 1), .int .i64 (k : Int), undef, .agg #[.int .u64 x, .slice p l c], .slice (some ⟨pb, 0, none⟩) (k + 1) cp, undef, undef, undef, undef, undef, undef, undef, undef, undef, undef, undef, undef, undef, undef, undef, undef, undef, undef, undef], defers := [] } W := by
   intro W acc bq hbq hbqn
   rw [← hR]
   have q0 := (bcell acc).1 pb (k * 2) lpb1 ▸ q0
   have q1 := (bcell acc).1 pb (k * 2 + 1) lpb1 ▸ q1
   refine wpAnyIn_ready (rs := [2, 11]) (by kernel_rfl) (by simp) ?_
   refine AllReadyIn.cons rfl (fun K hK => ?_) ?_
   · go_simp
     refine hK _ _ ?_
     rw [hR]; exact H111000000010000 W acc bq hbq hbqn
   refine AllReadyIn.cons rfl (fun K hK => ?_) ?_
   · go_simp
     refine hK _ _ ?_
     rw [hR]; exact H110000000011000 (W.alloc (.cells #[.int .u64 0, .slice none 0 0] 25)) (acc.alloc acc.size _) bq (hbq.alloc _) hbqn W.heap.size (Var.new W W.heap.size _ _ _ _ rfl) acc.size (Nat.ne_of_lt hbq.lt)
   exact AllReadyIn.nil
 have H110000000001000 : ∀ (W : World) (acc : Below w1.heap.size w1 W) (br : Nat) (hbr : Var W br (.int .u64 0) (.slice none 0 0)) (hbrn : w1.heap.size ≤ br), R 12 #[true, true, false, false, false, false, false, false, false, false, false, true, false, false, false] { tmps := #[.agg #[.int .u64 x, .slice p l c], .slice pv xs.length cv, .slice (some ⟨pb, 0, none⟩) (k + 1) cp, .pointer (some ⟨w.heap.size, 0, none⟩), undef, undef, .slice none 0 0, undef, .int .i64 (k : Int), undef, .pointer (some ⟨br, 0, none⟩), undef, .slice (some ⟨pb, 0, none⟩) (k + 1) cp, .int .i64 ((k : Int) + 1), .bool false, undef, undef, undef, undef, undef, undef, undef, undef, undef, undef, undef, .slice (some ⟨pb, 0, none⟩) (k + 1) cp, .int .i64 ((k : Int) + 1), .int .i64 (k : Int), undef, .agg #[.int .u64 x, .slice p l c], .slice (some ⟨pb, 0, none⟩) (k + 1) cp, undef, undef, undef, undef, undef, undef, undef, undef, undef, undef, undef, undef, undef, undef, undef, undef, undef, undef, undef], defers := [] } W := by
   intro W acc br hbr hbrn
   rw [← hR]
   have q0 := (bcell acc).1 pb (k * 2) lpb1 ▸ q0
   have q1 := (bcell acc).1 pb (k * 2 + 1) lpb1 ▸ q1
   refine wpAnyIn_ready (rs := [2, 10]) (by kernel_rfl) (by simp) ?_
   refine AllReadyIn.cons rfl (fun K hK => ?_) ?_
   · go_simp
     refine hK _ _ ?_
     rw [hR]; exact H111000000001000 W acc br hbr hbrn
   refine AllReadyIn.cons rfl (fun K hK => ?_) ?_
   · go_simp
     refine hK _ _ ?_
     rw [hR]; exact H110000000011000 (W.alloc (.cells #[.int .u64 0, .slice none 0 0] 25)) (acc.alloc acc.size _) W.heap.size (Var.new W W.heap.size _ _ _ _ rfl) acc.size br (hbr.alloc _) hbrn (Nat.ne_of_gt hbr.lt)
   exact AllReadyIn.nil
 have H110000000000000 : ∀ (W : World) (acc : Below w1.heap.size w1 W), R 13 #[true, true, false, false, false, false, false, false, false, false, false, false, false, false, false] { tmps := #[.agg #[.int .u64 x, .slice p l c], .slice pv xs.length cv, .slice (some ⟨pb, 0, none⟩) (k + 1) cp, .pointer (some ⟨w.heap.size, 0, none⟩), undef, undef, .slice none 0 0, undef, .int .i64 (k : Int), undef, undef, undef, .slice (some ⟨pb, 0, none⟩) (k + 1) cp, .int .i64 ((k : Int) + 1), .bool false, undef, undef, undef, undef, undef, undef, undef, undef, undef, undef, undef, .slice (some ⟨pb, 0, none⟩) (k + 1) cp, .int .i64 ((k : Int) + 1), .int .i64 (k : Int), undef, .agg #[.int .u64 x, .slice p l c], .slice (some ⟨pb, 0, none⟩) (k + 1) cp, undef, undef, undef, undef, undef, undef, undef, undef, undef, undef, undef, undef, undef, undef, undef, undef, undef, undef, undef], defers := [] } W := by
   intro W acc
   rw [← hR]
   have q0 := (bcell acc).1 pb (k * 2) lpb1 ▸ q0
   have q1 := (bcell acc).1 pb (k * 2 + 1) lpb1 ▸ q1
   refine wpAnyIn_ready (rs := [2, 10, 11]) (by kernel_rfl) (by simp) ?_
   refine AllReadyIn.cons rfl (fun K hK => ?_) ?_
   · go_simp
     refine hK _ _ ?_
     rw [hR]; exact H111000000000000 W acc
   refine AllReadyIn.cons rfl (fun K hK => ?_) ?_
   · go_simp
     refine hK _ _ ?_
     rw [hR]; exact H110000000010000 (W.alloc (.cells #[.int .u64 0, .slice none 0 0] 25)) (acc.alloc acc.size _) W.heap.size (Var.new W W.heap.size _ _ _ _ rfl) acc.size
   refine AllReadyIn.cons rfl (fun K hK => ?_) ?_
   · go_simp
     refine hK _ _ ?_
     rw [hR]; exact H110000000001000 (W.alloc (.cells #[.int .u64 0, .slice none 0 0] 25)) (acc.alloc acc.size _) W.heap.size (Var.new W W.heap.size _ _ _ _ rfl) acc.size
   exact AllReadyIn.nil
 have H101000000011000 : ∀ (W : World) (acc : Below w1.heap.size w1 W) (bq : Nat) (hbq : Var W bq (.int .u64 0) (.slice none 0 0)) (hbqn : w1.heap.size ≤ bq) (br : Nat) (hbr : Var W br (.int .u64 0) (.slice none 0 0)) (hbrn : w1.heap.size ≤ br) (hcd : bq ≠ br), R 11 #[true, false, true, false, false, false, false, false, false, false, true, true, false, false, false] { tmps := #[.agg #[.int .u64 x, .slice p l c], .slice pv xs.length cv, .slice (some ⟨pb, 0, none⟩) (k + 1) cp, .pointer (some ⟨w.heap.size, 0, none⟩), undef, undef, .slice none 0 0, undef, .int .i64 (k : Int), .pointer (some ⟨bq, 0, none⟩), .pointer (some ⟨br, 0, none⟩), undef, .slice (some ⟨pb, 0, none⟩) (k + 1) cp, .int .i64 ((k : Int) + 1), .bool false, undef, undef, undef, undef, undef, undef, undef, undef, undef, undef, undef, .slice (some ⟨pb, 0, none⟩) (k + 1) cp, .int .i64 ((k : Int) + 1), .int .i64 (k : Int), undef, .agg #[.int .u64 x, .slice p l c], undef, .int .i64 (k : Int), undef, undef, undef, undef, undef, undef, undef, undef, undef, undef, undef, undef, undef, undef, undef, undef, undef, undef], defers := [] } W := by
   intro W acc bq hbq hbqn br hbr hbrn hcd
   rw [← hR]
   have q0 := (bcell acc).1 pb (k * 2) lpb1 ▸ q0
   have q1 := (bcell acc).1 pb (k * 2 + 1) lpb1 ▸ q1
   refine wpAnyIn_ready (rs := [1]) (by kernel_rfl) (by simp) ?_
   refine AllReadyIn.cons rfl (fun K hK => ?_) ?_
   · go_simp
     refine hK _ _ ?_
     rw [hR]; exact H111000000011000 W acc bq hbq hbqn br hbr hbrn hcd
   exact AllReadyIn.nil
 have H101000000010000 : ∀ (W : World) (acc : Below w1.heap.size w1 W) (bq : Nat) (hbq : Var W bq (.int .u64 0) (.slice none 0 0)) (hbqn : w1.heap.size ≤ bq), R 12 #[true, false, true, false, false, false, false, false, false, false, true, false, false, false, false] { tmps := #[.agg #[.int .u64 x, .slice p l c], .slice pv xs.length cv, .slice (some ⟨pb, 0, none⟩) (k + 1) cp, .pointer (some ⟨w.heap.size, 0, none⟩), undef, undef, .slice none 0 0, undef, .int .i64 (k : Int), .pointer (some ⟨bq, 0, none⟩), undef, undef, .slice (some ⟨pb, 0, none⟩) (k + 1) cp, .int .i64 ((k : Int) + 1), .bool false, undef, undef, undef, undef, undef, undef, undef, undef, undef, undef, undef, .slice (some ⟨pb, 0, none⟩) (k + 1) cp, .int .i64 ((k : Int) + 1), .int .i64 (k : Int), undef, .agg #[.int .u64 x, .slice p l c], undef, .int .i64 (k : Int), undef, undef, undef, undef, undef, undef, undef, undef, undef, undef, undef, undef, undef, undef, undef, undef, undef, undef], defers := [] } W := by
   intro W acc bq hbq hbqn
   rw [← hR]
   have q0 := (bcell acc).1 pb (k * 2) lpb1 ▸ q0
   have q1 := (bcell acc).1 pb (k * 2 + 1) lpb1 ▸ q1
   refine wpAnyIn_ready (rs := [1, 11]) (by kernel_rfl) (by simp) ?_
   refine AllReadyIn.cons rfl (fun K hK => ?_) ?_
   · go_simp
     refine hK _ _ ?_
     rw [hR]; exact H111000000010000 W acc bq hbq hbqn
   refine AllReadyIn.cons rfl (fun K hK => ?_) ?_
   · go_simp
     refine hK _ _ ?_
     rw [hR]; exact H101000000011000 (W.alloc (.cells #[.int .u64 0, .slice none 0 0] 25)) (acc.alloc acc.size _) bq (hbq.alloc _) hbqn W.heap.size (Var.new W W.heap.size _ _ _ _ rfl) acc.size (Nat.ne_of_lt hbq.lt)
   exact AllReadyIn.nil
 have H101000000001000 : ∀ (W : World) (acc : Below w1.heap.size w1 W) (br : Nat) (hbr : Var W br (.int .u64 0) (.slice none 0 0)) (hbrn : w1.heap.size ≤ br), R 12 #[true, false, true, false, false, false, false, false, false, false, false, true, false, false, false] { tmps := #[.agg #[.int .u64 x, .slice p l c], .slice pv xs.length cv, .slice (some ⟨pb, 0, none⟩) (k + 1) cp, .pointer (some ⟨w.heap.size, 0, none⟩), undef, undef, .slice none 0 0, undef, .int .i64 (k : Int), undef, .pointer (some ⟨br, 0, none⟩), undef, .slice (some ⟨pb, 0, none⟩) (k + 1) cp, .int .i64 ((k : Int) + 1), .bool false, undef, undef, undef, undef, undef, undef, undef, undef, undef, undef, undef, .slice (some ⟨pb, 0, none⟩) (k + 1) cp, .int .i64 ((k : Int) + 1), .int .i64 (k : Int), undef, .agg #[.int .u64 x, .slice p l c], undef, .int .i64 (k : Int), undef, undef, undef, undef, undef, undef, undef, undef, undef, undef, undef, undef, undef, undef, undef, undef, undef, undef], defers := [] } W := by
   intro W acc br hbr hbrn
   rw [← hR]
   have q0 := (bcell acc).1 pb (k * 2) lpb1 ▸ q0
   have q1 := (bcell acc).1 pb (k * 2 + 1) lpb1 ▸ q1
   refine wpAnyIn_ready (rs := [1, 10]) (by kernel_rfl) (by simp) ?_
   refine AllReadyIn.cons rfl (fun K hK => ?_) ?_
   · go_simp
     refine hK _ _ ?_
     rw [hR]; exact H111000000001000 W acc br hbr hbrn
   refine AllReadyIn.cons rfl (fun K hK => ?_) ?_
   · go_simp
     refine hK _ _ ?_
     rw [hR]; exact H101000000011000 (W.alloc (.cells #[.int .u64 0, .slice none 0 0] 25)) (acc.alloc acc.size _) W.heap.size (Var.new W W.heap.size _ _ _ _ rfl) acc.size br (hbr.alloc _) hbrn (Nat.ne_of_gt hbr.lt)
   exact AllReadyIn.nil
 have H101000000000000 : ∀ (W : World) (acc : Below w1.heap.size w1 W), R 13 #[true, false, true, false, false, false, false, false, false, false, false, false, false, false, false] { tmps := #[.agg #[.int .u64 x, .slice p l c], .slice pv xs.length cv, .slice (some ⟨pb, 0, none⟩) (k + 1) cp, .pointer (some ⟨w.heap.size, 0, none⟩), undef, undef, .slice none 0 0, undef, .int .i64 (k : Int), undef, undef, undef, .slice (some ⟨pb, 0, none⟩) (k + 1) cp, .int .i64 ((k : Int) + 1), .bool false, undef, undef, undef, undef, undef, undef, undef, undef, undef, undef, undef, .slice (some ⟨pb, 0, none⟩) (k + 1) cp, .int .i64 ((k : Int) + 1), .int .i64 (k : Int), undef, .agg #[.int .u64 x, .slice p l c], undef, .int .i64 (k : Int), undef, undef, undef, undef, undef, undef, undef, undef, undef, undef, undef, undef, undef, undef, undef, undef, undef, undef], defers := [] } W := by
   intro W acc
   rw [← hR]
   have q0 := (bcell acc).1 pb (k * 2) lpb1 ▸ q0
   have q1 := (bcell acc).1 pb (k * 2 + 1) lpb1 ▸ q1
   refine wpAnyIn_ready (rs := [1, 10, 11]) (by kernel_rfl) (by simp) ?_
   refine AllReadyIn.cons rfl (fun K hK => ?_) ?_
   · go_simp
     refine hK _ _ ?_
     rw [hR]; exact H111000000000000 W acc
   refine AllReadyIn.cons rfl (fun K hK => ?_) ?_
   · go_simp
     refine hK _ _ ?_
     rw [hR]; exact H101000000010000 (W.alloc (.cells #[.int .u64 0, .slice none 0 0] 25)) (acc.alloc acc.size _) W.heap.size (Var.new W W.heap.size _ _ _ _ rfl) acc.size
   refine AllReadyIn.cons rfl (fun K hK => ?_) ?_
   · go_simp
     refine hK _ _ ?_
     rw [hR]; exact H101000000001000 (W.alloc (.cells #[.int .u64 0, .slice none 0 0] 25)) (acc.alloc acc.size _) W.heap.size (Var.new W W.heap.size _ _ _ _ rfl) acc.size
   exact AllReadyIn.nil
 have H100000000011000 : ∀ (W : World) (acc : Below w1.heap.size w1 W) (bq : Nat) (hbq : Var W bq (.int .u64 0) (.slice none 0 0)) (hbqn : w1.heap.size ≤ bq) (br : Nat) (hbr : Var W br (.int .u64 0) (.slice none 0 0)) (hbrn : w1.heap.size ≤ br) (hcd : bq ≠ br), R 12 #[true, false, false, false, false, false, false, false, false, false, true, true, false, false, false] { tmps := #[.agg #[.int .u64 x, .slice p l c], .slice pv xs.length cv, .slice (some ⟨pb, 0, none⟩) (k + 1) cp, .pointer (some ⟨w.heap.size, 0, none⟩), undef, undef, .slice none 0 0, undef, .int .i64 (k : Int), .pointer (some ⟨bq, 0, none⟩), .pointer (some ⟨br, 0, none⟩), undef, .slice (some ⟨pb, 0, none⟩) (k + 1) cp, .int .i64 ((k : Int) + 1), .bool false, undef, undef, undef, undef, undef, undef, undef, undef, undef, undef, undef, .slice (some ⟨pb, 0, none⟩) (k + 1) cp, .int .i64 ((k : Int) + 1), .int .i64 (k : Int), undef, .agg #[.int .u64 x, .slice p l c], undef, undef, undef, undef, undef, undef, undef, undef, undef, undef, undef, undef, undef, undef, undef, undef, undef, undef, undef, undef], defers := [] } W := by
   intro W acc bq hbq hbqn br hbr hbrn hcd
   rw [← hR]
   have q0 := (bcell acc).1 pb (k * 2) lpb1 ▸ q0
   have q1 := (bcell acc).1 pb (k * 2 + 1) lpb1 ▸ q1
   refine wpAnyIn_ready (rs := [1, 2]) (by kernel_rfl) (by simp) ?_
   refine AllReadyIn.cons rfl (fun K hK => ?_) ?_
   · go_simp
     refine hK _ _ ?_
     rw [hR]; exact H110000000011000 W acc bq hbq hbqn br hbr hbrn hcd
   refine AllReadyIn.cons rfl (fun K hK => ?_) ?_
   · go_simp
     refine hK _ _ ?_
     rw [hR]; exact H101000000011000 W acc bq hbq hbqn br hbr hbrn hcd
   exact AllReadyIn.nil
 have H100000000010000 : ∀ (W : World) (acc : Below w1.heap.size w1 W) (bq : Nat) (hbq : Var W bq (.int .u64 0) (.slice none 0 0)) (hbqn : w1.heap.size ≤ bq), R 13 #[true, false, false, false, false, false, false, false, false, false, true, false, false, false, false] { tmps := #[.agg #[.int .u64 x, .slice p l c], .slice pv xs.length cv, .slice (some ⟨pb, 0, none⟩) (k + 1) cp, .pointer (some ⟨w.heap.size, 0, none⟩), undef, undef, .slice none 0 0, undef, .int .i64 (k : Int), .pointer (some ⟨bq, 0, none⟩), undef, undef, .slice (some ⟨pb, 0, none⟩) (k + 1) cp, .int .i64 ((k : Int) + 1), .bool false, undef, undef, undef, undef, undef, undef, undef, undef, undef, undef, undef, .slice (some ⟨pb, 0, none⟩) (k + 1) cp, .int .i64 ((k : Int) + 1), .int .i64 (k : Int), undef, .agg #[.int .u64 x, .slice p l c], undef, undef, undef, undef, undef, undef, undef, undef, undef, undef, undef, undef, undef, undef, undef, undef, undef, undef, undef, undef], defers := [] } W := by
   intro W acc bq hbq hbqn
   rw [← hR]
   have q0 := (bcell acc).1 pb (k * 2) lpb1 ▸ q0
   have q1 := (bcell acc).1 pb (k * 2 + 1) lpb1 ▸ q1
   refine wpAnyIn_ready (rs := [1, 2, 11]) (by kernel_rfl) (by simp) ?_
   refine AllReadyIn.cons rfl (fun K hK => ?_) ?_
   · go_simp
     refine hK _ _ ?_
     rw [hR]; exact H110000000010000 W acc bq hbq hbqn
   refine AllReadyIn.cons rfl (fun K hK => ?_) ?_
   · go_simp
     refine hK _ _ ?_
     rw [hR]; exact H101000000010000 W acc bq hbq hbqn
   refine AllReadyIn.cons rfl (fun K hK => ?_) ?_
   · go_simp
     refine hK _ _ ?_
     rw [hR]; exact H100000000011000 (W.alloc (.cells #[.int .u64 0, .slice none 0 0] 25)) (acc.alloc acc.size _) bq (hbq.alloc _) hbqn W.heap.size (Var.new W W.heap.size _ _ _ _ rfl) acc.size (Nat.ne_of_lt hbq.lt)
   exact AllReadyIn.nil
 have H100000000001000 : ∀ (W : World) (acc : Below w1.heap.size w1 W) (br : Nat) (hbr : Var W br (.int .u64 0) (.slice none 0 0)) (hbrn : w1.heap.size ≤ br), R 13 #[true, false, false, false, false, false, false, false, false, false, false, true, false, false, false] { tmps := #[.agg #[.int .u64 x, .slice p l c], .slice pv xs.length cv, .slice (some ⟨pb, 0, none⟩) (k + 1) cp, .pointer (some ⟨w.heap.size, 0, none⟩), undef, undef, .slice none 0 0, undef, .int .i64 (k : Int), undef, .pointer (some ⟨br, 0, none⟩), undef, .slice (some ⟨pb, 0, none⟩) (k + 1) cp, .int .i64 ((k : Int) + 1), .bool false, undef, undef, undef, undef, undef, undef, undef, undef, undef, undef, undef, .slice (some ⟨pb, 0, none⟩) (k + 1) cp, .int .i64 ((k : Int) + 1), .int .i64 (k : Int), undef, .agg #[.int .u64 x, .slice p l c], undef, undef, undef, undef, undef, undef, undef, undef, undef, undef, undef, undef, undef, undef, undef, undef, undef, undef, undef, undef], defers := [] } W := by
   intro W acc br hbr hbrn
   rw [← hR]
   have q0 := (bcell acc).1 pb (k * 2) lpb1 ▸ q0
   have q1 := (bcell acc).1 pb (k * 2 + 1) lpb1 ▸ q1
   refine wpAnyIn_ready (rs := [1, 2, 10]) (by kernel_rfl) (by simp) ?_
   refine AllReadyIn.cons rfl (fun K hK => ?_) ?_
   · go_simp
     refine hK _ _ ?_
     rw [hR]; exact H110000000001000 W acc br hbr hbrn
   refine AllReadyIn.cons rfl (fun K hK => ?_) ?_
   · go_simp
     refine hK _ _ ?_
     rw [hR]; exact H101000000001000 W acc br hbr hbrn
   refine AllReadyIn.cons rfl (fun K hK => ?_) ?_
   · go_simp
     refine hK _ _ ?_
     rw [hR]; exact H100000000011000 (W.alloc (.cells #[.int .u64 0, .slice none 0 0] 25)) (acc.alloc acc.size _) W.heap.size (Var.new W W.heap.size _ _ _ _ rfl) acc.size br (hbr.alloc _) hbrn (Nat.ne_of_gt hbr.lt)
   exact AllReadyIn.nil
 have H100000000000000 : ∀ (W : World) (acc : Below w1.heap.size w1 W), R 14 #[true, false, false, false, false, false, false, false, false, false, false, false, false, false, false] { tmps := #[.agg #[.int .u64 x, .slice p l c], .slice pv xs.length cv, .slice (some ⟨pb, 0, none⟩) (k + 1) cp, .pointer (some ⟨w.heap.size, 0, none⟩), undef, undef, .slice none 0 0, undef, .int .i64 (k : Int), undef, undef, undef, .slice (some ⟨pb, 0, none⟩) (k + 1) cp, .int .i64 ((k : Int) + 1), .bool false, undef, undef, undef, undef, undef, undef, undef, undef, undef, undef, undef, .slice (some ⟨pb, 0, none⟩) (k + 1) cp, .int .i64 ((k : Int) + 1), .int .i64 (k : Int), undef, .agg #[.int .u64 x, .slice p l c], undef, undef, undef, undef, undef, undef, undef, undef, undef, undef, undef, undef, undef, undef, undef, undef, undef, undef, undef, undef], defers := [] } W := by
   intro W acc
   rw [← hR]
   have q0 := (bcell acc).1 pb (k * 2) lpb1 ▸ q0
   have q1 := (bcell acc).1 pb (k * 2 + 1) lpb1 ▸ q1
   refine wpAnyIn_ready (rs := [1, 2, 10, 11]) (by kernel_rfl) (by simp) ?_
   refine AllReadyIn.cons rfl (fun K hK => ?_) ?_
   · go_simp
     refine hK _ _ ?_
     rw [hR]; exact H110000000000000 W acc
   refine AllReadyIn.cons rfl (fun K hK => ?_) ?_
   · go_simp
     refine hK _ _ ?_
     rw [hR]; exact H101000000000000 W acc
   refine AllReadyIn.cons rfl (fun K hK => ?_) ?_
   · go_simp
     refine hK _ _ ?_
     rw [hR]; exact H100000000010000 (W.alloc (.cells #[.int .u64 0, .slice none 0 0] 25)) (acc.alloc acc.size _) W.heap.size (Var.new W W.heap.size _ _ _ _ rfl) acc.size
   refine AllReadyIn.cons rfl (fun K hK => ?_) ?_
   · go_simp
     refine hK _ _ ?_
     rw [hR]; exact H100000000001000 (W.alloc (.cells #[.int .u64 0, .slice none 0 0] 25)) (acc.alloc acc.size _) W.heap.size (Var.new W W.heap.size _ _ _ _ rfl) acc.size
   exact AllReadyIn.nil
 have H011110000011000 : ∀ (W : World) (acc : Below w1.heap.size w1 W) (bq : Nat) (hbq : Var W bq (.int .u64 0) (.slice none 0 0)) (hbqn : w1.heap.size ≤ bq) (br : Nat) (hbr : Var W br (.int .u64 0) (.slice none 0 0)) (hbrn : w1.heap.size ≤ br) (hcd : bq ≠ br), R 9 #[false, true, true, true, true, false, false, false, false, false, true, true, false, false, false] { tmps := #[.agg #[.int .u64 x, .slice p l c], .slice pv xs.length cv, .slice (some ⟨pb, 0, none⟩) (k + 1) cp, .pointer (some ⟨w.heap.size, 0, none⟩), undef, undef, .slice none 0 0, undef, .int .i64 (k : Int), .pointer (some ⟨bq, 0, none⟩), .pointer (some ⟨br, 0, none⟩), undef, .slice (some ⟨pb, 0, none⟩) (k + 1) cp, .int .i64 ((k : Int) + 1), .bool false, undef, undef, undef, undef, undef, undef, undef, undef, undef, undef, undef, .slice (some ⟨pb, 0, none⟩) (k + 1) cp, .int .i64 ((k : Int) + 1), .int .i64 (k : Int), undef, undef, .slice (some ⟨pb, 0, none⟩) (k + 1) cp, .int .i64 (k : Int), .pointer (some ⟨pb, k * 2, none⟩), .agg #[.int .u64 px, .slice pp pl pc], undef, undef, undef, undef, undef, undef, undef, undef, undef, undef, undef, undef, undef, undef, undef, undef], defers := [] } W := by
   intro W acc bq hbq hbqn br hbr hbrn hcd
   rw [← hR]
   have c00 := (u0.below acc l0).c0
   have c01 := (u0.below acc l0).c1
   refine wpAnyIn_ready (rs := [0]) (by kernel_rfl) (by simp) ?_
   refine AllReadyIn.cons rfl (fun K hK => ?_) ?_
   · go_simp
     refine hK _ _ ?_
     rw [hR]; exact H111110000011000 W acc bq hbq hbqn br hbr hbrn hcd
   exact AllReadyIn.nil
 have H011110000010000 : ∀ (W : World) (acc : Below w1.heap.size w1 W) (bq : Nat) (hbq : Var W bq (.int .u64 0) (.slice none 0 0)) (hbqn : w1.heap.size ≤ bq), R 10 #[false, true, true, true, true, false, false, false, false, false, true, false, false, false, false] { tmps := #[.agg #[.int .u64 x, .slice p l c], .slice pv xs.length cv, .slice (some ⟨pb, 0, none⟩) (k + 1) cp, .pointer (some ⟨w.heap.size, 0, none⟩), undef, undef, .slice none 0 0, undef, .int .i64 (k : Int), .pointer (some ⟨bq, 0, none⟩), undef, undef, .slice (some ⟨pb, 0, none⟩) (k + 1) cp, .int .i64 ((k : Int) + 1), .bool false, undef, undef, undef, undef, undef, undef, undef, undef, undef, undef, undef, .slice (some ⟨pb, 0, none⟩) (k + 1) cp, .int .i64 ((k : Int) + 1), .int .i64 (k : Int), undef, undef, .slice (some ⟨pb, 0, none⟩) (k + 1) cp, .int .i64 (k : Int), .pointer (some ⟨pb, k * 2, none⟩), .agg #[.int .u64 px, .slice pp pl pc], undef, undef, undef, undef, undef, undef, undef, undef, undef, undef, undef, undef, undef, undef, undef, undef], defers := [] } W := by
   intro W acc bq hbq hbqn
   rw [← hR]
   have c00 := (u0.below acc l0).c0
   have c01 := (u0.below acc l0).c1
   refine wpAnyIn_ready (rs := [0, 11]) (by kernel_rfl) (by simp) ?_
   refine AllReadyIn.cons rfl (fun K hK => ?_) ?_
   · go_simp
     refine hK _ _ ?_
     rw [hR]; exact H111110000010000 W acc bq hbq hbqn
   refine AllReadyIn.cons rfl (fun K hK => ?_) ?_
   · go_simp
     refine hK _ _ ?_
     rw [hR]; exact H011110000011000 (W.alloc (.cells #[.int .u64 0, .slice none 0 0] 25)) (acc.alloc acc.size _) bq (hbq.alloc _) hbqn W.heap.size (Var.new W W.heap.size _ _ _ _ rfl) acc.size (Nat.ne_of_lt hbq.lt)
   exact AllReadyIn.nil
 have H011110000001000 : ∀ (W : World) (acc : Below w1.heap.size w1 W) (br : Nat) (hbr : Var W br (.int .u64 0) (.slice none 0 0)) (hbrn : w1.heap.size ≤ br), R 10 #[false, true, true, true, true, false, false, false, false, false, false, true, false, false, false] { tmps := #[.agg #[.int .u64 x, .slice p l c], .slice pv xs.length cv, .slice (some ⟨pb, 0, none⟩) (k + 1) cp, .pointer (some ⟨w.heap.size, 0, none⟩), undef, undef, .slice none 0 0, undef, .int .i64 (k : Int), undef, .pointer (some ⟨br, 0, none⟩), undef, .slice (some ⟨pb, 0, none⟩) (k + 1) cp, .int .i64 ((k : Int) + 1), .bool false, undef, undef, undef, undef, undef, undef, undef, undef, undef, undef, undef, .slice (some ⟨pb, 0, none⟩) (k + 1) cp, .int .i64 ((k : Int) + 1), .int .i64 (k : Int), undef, undef, .slice (some ⟨pb, 0, none⟩) (k + 1) cp, .int .i64 (k : Int), .pointer (some ⟨pb, k * 2, none⟩), .agg #[.int .u64 px, .slice pp pl pc], undef, undef, undef, undef, undef, undef, undef, undef, undef, undef, undef, undef, undef, undef, undef, undef], defers := [] } W := by
   intro W acc br hbr hbrn
   rw [← hR]
   have c00 := (u0.below acc l0).c0
   have c01 := (u0.below acc l0).c1
   refine wpAnyIn_ready (rs := [0, 10]) (by kernel_rfl) (by simp) ?_
   refine AllReadyIn.cons rfl (fun K hK => ?_) ?_
   · go_simp
     refine hK _ _ ?_
     rw [hR]; exact H111110000001000 W acc br hbr hbrn
   refine AllReadyIn.cons rfl (fun K hK => ?_) ?_
   · go_simp
     refine hK _ _ ?_
     rw [hR]; exact H011110000011000 (W.alloc (.cells #[.int .u64 0, .slice none 0 0] 25)) (acc.alloc acc.size _) W.heap.size (Var.new W W.heap.size _ _ _ _ rfl) acc.size br (hbr.alloc _) hbrn (Nat.ne_of_gt hbr.lt)
   exact AllReadyIn.nil
 have H011110000000000 : ∀ (W : World) (acc : Below w1.heap.size w1 W), R 11 #[false, true, true, true, true, false, false, false, false, false, false, false, false, false, false] { tmps := #[.agg #[.int .u64 x, .slice p l c], .slice pv xs.length cv, .slice (some ⟨pb, 0, none⟩) (k + 1) cp, .pointer (some ⟨w.heap.size, 0, none⟩), undef, undef, .slice none 0 0, undef, .int .i64 (k : Int), undef, undef, undef, .slice (some ⟨pb, 0, none⟩) (k + 1) cp, .int .i64 ((k : Int) + 1), .bool false, undef, undef, undef, undef, undef, undef, undef, undef, undef, undef, undef, .slice (some ⟨pb, 0, none⟩) (k + 1) cp, .int .i64 ((k : Int) + 1), .int .i64 (k : Int), undef, undef, .slice (some ⟨pb, 0, none⟩) (k + 1) cp, .int .i64 (k : Int), .pointer (some ⟨pb, k * 2, none⟩), .agg #[.int .u64 px, .slice pp pl pc], undef, undef, undef, undef, undef, undef, undef, undef, undef, undef, undef, undef, undef, undef, undef, undef], defers := [] } W := by
   intro W acc
   rw [← hR]
   have c00 := (u0.below acc l0).c0
   have c01 := (u0.below acc l0).c1
   refine wpAnyIn_ready (rs := [0, 10, 11]) (by kernel_rfl) (by simp) ?_
   refine AllReadyIn.cons rfl (fun K hK => ?_) ?_
   · go_simp
     refine hK _ _ ?_
     rw [hR]; exact H111110000000000 W acc
   refine AllReadyIn.cons rfl (fun K hK => ?_) ?_
   · go_simp
     refine hK _ _ ?_
     rw [hR]; exact H011110000010000 (W.alloc (.cells #[.int .u64 0, .slice none 0 0] 25)) (acc.alloc acc.size _) W.heap.size (Var.new W W.heap.size _ _ _ _ rfl) acc.size
   refine AllReadyIn.cons rfl (fun K hK => ?_) ?_
   · go_simp
     refine hK _ _ ?_
     rw [hR]; exact H011110000001000 (W.alloc (.cells #[.int .u64 0, .slice none 0 0] 25)) (acc.alloc acc.size _) W.heap.size (Var.new W W.heap.size _ _ _ _ rfl) acc.size
   exact AllReadyIn.nil
 have H011100000011000 : ∀ (W : World) (acc : Below w1.heap.size w1 W) (bq : Nat) (hbq : Var W bq (.int .u64 0) (.slice none 0 0)) (hbqn : w1.heap.size ≤ bq) (br : Nat) (hbr : Var W br (.int .u64 0) (.slice none 0 0)) (hbrn : w1.heap.size ≤ br) (hcd : bq ≠ br), R 10 #[false, true, true, true, false, false, false, false, false, false, true, true, false, false, false] { tmps := #[.agg #[.int .u64 x, .slice p l c], .slice pv xs.length cv, .slice (some ⟨pb, 0, none⟩) (k + 1) cp, .pointer (some ⟨w.heap.size, 0, none⟩), undef, undef, .slice none 0 0, undef, .int .i64 (k : Int), .pointer (some ⟨bq, 0, none⟩), .pointer (some ⟨br, 0, none⟩), undef, .slice (some ⟨pb, 0, none⟩) (k + 1) cp, .int .i64 ((k : Int) + 1), .bool false, undef, undef, undef, undef, undef, undef, undef, undef, undef, undef, undef, .slice (some ⟨pb, 0, none⟩) (k + 1) cp, .int .i64 ((k : Int) + 1), .int .i64 (k : Int), undef, undef, .slice (some ⟨pb, 0, none⟩) (k + 1) cp, .int .i64 (k : Int), .pointer (some ⟨pb, k * 2, none⟩), undef, undef, undef, undef, undef, undef, undef, undef, undef, undef, undef, undef, undef, undef, undef, undef, undef], defers := [] } W := by
   intro W acc bq hbq hbqn br hbr hbrn hcd
   rw [← hR]
   have c00 := (u0.below acc l0).c0
   have c01 := (u0.below acc l0).c1
   have q0 := (bcell acc).1 pb (k * 2) lpb1 ▸ q0
   have q1 := (bcell acc).1 pb (k * 2 + 1) lpb1 ▸ q1
   refine wpAnyIn_ready (rs := [0, 4]) (by kernel_rfl) (by simp) ?_
   refine AllReadyIn.cons rfl (fun K hK => ?_) ?_
   · go_simp
     refine hK _ _ ?_
     rw [hR]; exact H111100000011000 W acc bq hbq hbqn br hbr hbrn hcd
   refine AllReadyIn.cons rfl (fun K hK => ?_) ?_
   · go_simp
     refine hK _ _ ?_
     rw [hR]; exact H011110000011000 W acc bq hbq hbqn br hbr hbrn hcd
   exact AllReadyIn.nil
 have H011100000010000 : ∀ (W : World) (acc : Below w1.heap.size w1 W) (bq : Nat) (hbq : Var W bq (.int .u64 0) (.slice none 0 0)) (hbqn : w1.heap.size ≤ bq), R 11 #[false, true, true, true, false, false, false, false, false, false, true, false, false, false, false] { tmps := #[.agg #[.int .u64 x, .slice p l c], .slice pv xs.length cv, .slice (some ⟨pb, 0, none⟩) (k + 1) cp, .pointer (some ⟨w.heap.size, 0, none⟩), undef, undef, .slice none 0 0, undef, .int .i64 (k : Int), .pointer (some ⟨bq, 0, none⟩), undef, undef, .slice (some ⟨pb, 0, none⟩) (k + 1) cp, .int .i64 ((k : Int) + 1), .bool false, undef, undef, undef, undef, undef, undef, undef, undef, undef, undef, undef, .slice (some ⟨pb, 0, none⟩) (k + 1) cp, .int .i64 ((k : Int) + 1), .int .i64 (k : Int), undef, undef, .slice (some ⟨pb, 0, none⟩) (k + 1) cp, .int .i64 (k : Int), .pointer (some ⟨pb, k * 2, none⟩), undef, undef, undef, undef, undef, undef, undef, undef, undef, undef, undef, undef, undef, undef, undef, undef, undef], defers := [] } W := by
   intro W acc bq hbq hbqn
   rw [← hR]
   have c00 := (u0.below acc l0).c0
   have c01 := (u0.below acc l0).c1
   have q0 := (bcell acc).1 pb (k * 2) lpb1 ▸ q0
   have q1 := (bcell acc).1 pb (k * 2 + 1) lpb1 ▸ q1
   refine wpAnyIn_ready (rs := [0, 4, 11]) (by kernel_rfl) (by simp) ?_
   refine AllReadyIn.cons rfl (fun K hK => ?_) ?_
   · go_simp
     refine hK _ _ ?_
     rw [hR]; exact H111100000010000 W acc bq hbq hbqn
   refine AllReadyIn.cons rfl (fun K hK => ?_) ?_
   · go_simp
     refine hK _ _ ?_
     rw [hR]; exact H011110000010000 W acc bq hbq hbqn
   refine AllReadyIn.cons rfl (fun K hK => ?_) ?_
   · go_simp
     refine hK _ _ ?_
     rw [hR]; exact H011100000011000 (W.alloc (.cells #[.int .u64 0, .slice none 0 0] 25)) (acc.alloc acc.size _) bq (hbq.alloc _) hbqn W.heap.size (Var.new W W.heap.size _ _ _ _ rfl) acc.size (Nat.ne_of_lt hbq.lt)
   exact AllReadyIn.nil
 have H011100000001000 : ∀ (W : World) (acc : Below w1.heap.size w1 W) (br : Nat) (hbr : Var W br (.int .u64 0) (.slice none 0 0)) (hbrn : w1.heap.size ≤ br), R 11 #[false, true, true, true, false, false, false, false, false, false, false, true, false, false, false] { tmps := #[.agg #[.int .u64 x, .slice p l c], .slice pv xs.length cv, .slice (some ⟨pb, 0, none⟩) (k + 1) cp, .pointer (some ⟨w.heap.size, 0, none⟩), undef, undef, .slice none 0 0, undef, .int .i64 (k : Int), undef, .pointer (some ⟨br, 0, none⟩), undef, .slice (some ⟨pb, 0, none⟩) (k + 1) cp, .int .i64 ((k : Int) + 1), .bool false, undef, undef, undef, undef, undef, undef, undef, undef, undef, undef, undef, .slice (some ⟨pb, 0, none⟩) (k + 1) cp, .int .i64 ((k : Int) + 1), .int .i64 (k : Int), undef, undef, .slice (some ⟨pb, 0, none⟩) (k + 1) cp, .int .i64 (k : Int), .pointer (some ⟨pb, k * 2, none⟩), undef, undef, undef, undef, undef, undef, undef, undef, undef, undef, undef, undef, undef, undef, undef, undef, undef], defers := [] } W := by
   intro W acc br hbr hbrn
   rw [← hR]
   have c00 := (u0.below acc l0).c0
   have c01 := (u0.below acc l0).c1
   have q0 := (bcell acc).1 pb (k * 2) lpb1 ▸ q0
   have q1 := (bcell acc).1 pb (k * 2 + 1) lpb1 ▸ q1
   refine wpAnyIn_ready (rs := [0, 4, 10]) (by kernel_rfl) (by simp) ?_
   refine AllReadyIn.cons rfl (fun K hK => ?_) ?_
   · go_simp
     refine hK _ _ ?_
     rw [hR]; exact H111100000001000 W acc br hbr hbrn
   refine AllReadyIn.cons rfl (fun K hK => ?_) ?_
   · go_simp
     refine hK _ _ ?_
     rw [hR]; exact H011110000001000 W acc br hbr hbrn
   refine AllReadyIn.cons rfl (fun K hK => ?_) ?_
   · go_simp
     refine hK _ _ ?_
     rw [hR]; exact H011100000011000 (W.alloc (.cells #[.int .u64 0, .slice none 0 0] 25)) (acc.alloc acc.size _) W.heap.size (Var.new W W.heap.size _ _ _ _ rfl) acc.size br (hbr.alloc _) hbrn (Nat.ne_of_gt hbr.lt)
   exact AllReadyIn.nil
 have H011100000000000 : ∀ (W : World) (acc : Below w1.heap.size w1 W), R 12 #[false, true, true, true, false, false, false, false, false, false, false, false, false, false, false] { tmps := #[.agg #[.int .u64 x, .slice p l c], .slice pv xs.length cv, .slice (some ⟨pb, 0, none⟩) (k + 1) cp, .pointer (some ⟨w.heap.size, 0, none⟩), undef, undef, .slice none 0 0, undef, .int .i64 (k : Int), undef, undef, undef, .slice (some ⟨pb, 0, none⟩) (k + 1) cp, .int .i64 ((k : Int) + 1), .bool false, undef, undef, undef, undef, undef, undef, undef, undef, undef, undef, undef, .slice (some ⟨pb, 0, none⟩) (k + 1) cp, .int .i64 ((k : Int) + 1), .int .i64 (k : Int), undef, undef, .slice (some ⟨pb, 0, none⟩) (k + 1) cp, .int .i64 (k : Int), .pointer (some ⟨pb, k * 2, none⟩), undef, undef, undef, undef, undef, undef, undef, undef, undef, undef, undef, undef, undef, undef, undef, undef, undef], defers := [] } W := by
   intro W acc
   rw [← hR]
   have c00 := (u0.below acc l0).c0
   have c01 := (u0.below acc l0).c1
   have q0 := (bcell acc).1 pb (k * 2) lpb1 ▸ q0
   have q1 := (bcell acc).1 pb (k * 2 + 1) lpb1 ▸ q1
   refine wpAnyIn_ready (rs := [0, 4, 10, 11]) (by kernel_rfl) (by simp) ?_
   refine AllReadyIn.cons rfl (fun K hK => ?_) ?_
   · go_simp
     refine hK _ _ ?_
     rw [hR]; exact H111100000000000 W acc
   refine AllReadyIn.cons rfl (fun K hK => ?_) ?_
   · go_simp
     refine hK _ _ ?_
     rw [hR]; exact H011110000000000 W acc
   refine AllReadyIn.cons rfl (fun K hK => ?_) ?_
   · go_simp
     refine hK _ _ ?_
     rw [hR]; exact H011100000010000 (W.alloc (.cells #[.int .u64 0, .slice none 0 0] 25)) (acc.alloc acc.size _) W.heap.size (Var.new W W.heap.size _ _ _ _ rfl) acc.size
   refine AllReadyIn.cons rfl (fun K hK => ?_) ?_
   · go_simp
     refine hK _ _ ?_
     rw [hR]; exact H011100000001000 (W.alloc (.cells #[.int .u64 0, .slice none 0 0] 25)) (acc.alloc acc.size _) W.heap.size (Var.new W W.heap.size _ _ _ _ rfl) acc.size
   exact AllReadyIn.nil
 have H011000000011000 : ∀ (W : World) (acc : Below w1.heap.size w1 W) (bq : Nat) (hbq : Var W bq (.int .u64 0) (.slice none 0 0)) (hbqn : w1.heap.size ≤ bq) (br : Nat) (hbr : Var W br (.int .u64 0) (.slice none 0 0)) (hbrn : w1.heap.size ≤ br) (hcd : bq ≠ br), R 11 #[false, true, true, false, false, false, false, false, false, false, true, true, false, false, false] { tmps := #[.agg #[.int .u64 x, .slice p l c], .slice pv xs.length cv, .slice (some ⟨pb, 0, none⟩) (k + 1) cp, .pointer (some ⟨w.heap.size, 0, none⟩), undef, undef, .slice none 0 0, undef, .int .i64 (k : Int), .pointer (some ⟨bq, 0, none⟩), .pointer (some ⟨br, 0, none⟩), undef, .slice (some ⟨pb, 0, none⟩) (k + 1) cp, .int .i64 ((k : Int) + 1), .bool false, undef, undef, undef, undef, undef, undef, undef, undef, undef, undef, undef, .slice (some ⟨pb, 0, none⟩) (k + 1) cp, .int .i64 ((k : Int) + 1), .int .i64 (k : Int), undef, undef, .slice (some ⟨pb, 0, none⟩) (k + 1) cp, .int .i64 (k : Int), undef, undef, undef, undef, undef, undef, undef, undef, undef, undef, undef, undef, undef, undef, undef, undef, undef, undef], defers := [] } W := by
   intro W acc bq hbq hbqn br hbr hbrn hcd
   rw [← hR]
   have c00 := (u0.below acc l0).c0
   have c01 := (u0.below acc l0).c1
   have q0 := (bcell acc).1 pb (k * 2) lpb1 ▸ q0
   have q1 := (bcell acc).1 pb (k * 2 + 1) lpb1 ▸ q1
   refine wpAnyIn_ready (rs := [0, 3]) (by kernel_rfl) (by simp) ?_
   refine AllReadyIn.cons rfl (fun K hK => ?_) ?_
   · go_simp
     refine hK _ _ ?_
     rw [hR]; exact H111000000011000 W acc bq hbq hbqn br hbr hbrn hcd
   refine AllReadyIn.cons rfl (fun K hK => ?_) ?_
   · go_simp
     refine hK _ _ ?_
     rw [hR]; exact H011100000011000 W acc bq hbq hbqn br hbr hbrn hcd
   exact AllReadyIn.nil
 have H011000000010000 : ∀ (W : World) (acc : Below w1.heap.size w1 W) (bq : Nat) (hbq : Var W bq (.int .u64 0) (.slice none 0 0)) (hbqn : w1.heap.size ≤ bq), R 12 #[false, true, true, false, false, false, false, false, false, false, true, false, false, false, false] { tmps := #[.agg #[.int .u64 x, .slice p l c], .slice pv xs.length cv, .slice (some ⟨pb, 0, none⟩) (k + 1) cp, .pointer (some ⟨w.heap.size, 0, none⟩), undef, undef, .slice none 0 0, undef, .int .i64 (k : Int), .pointer (some ⟨bq, 0, none⟩), undef, undef, .slice (some ⟨pb, 0, none⟩) (k + 1) cp, .int .i64 ((k : Int) + 1), .bool false, undef, undef, undef, undef, undef, undef, undef, undef, undef, undef, undef, .slice (some ⟨pb, 0, none⟩) (k + 1) cp, .int .i64 ((k : Int) + 1), .int .i64 (k : Int), undef, undef, .slice (some ⟨pb, 0, none⟩) (k + 1) cp, .int .i64 (k : Int), undef, undef, undef, undef, undef, undef, undef, undef, undef, undef, undef, undef, undef, undef, undef, undef, undef, undef], defers := [] } W := by
   intro W acc bq hbq hbqn
   rw [← hR]
   have c00 := (u0.below acc l0).c0
   have c01 := (u0.below acc l0).c1
   have q0 := (bcell acc).1 pb (k * 2) lpb1 ▸ q0
   have q1 := (bcell acc).1 pb (k * 2 + 1) lpb1 ▸ q1
   refine wpAnyIn_ready (rs := [0, 3, 11]) (by kernel_rfl) (by simp) ?_
   refine AllReadyIn.cons rfl (fun K hK => ?_) ?_
   · go_simp
     refine hK _ _ ?_
     rw [hR]; exact H111000000010000 W acc bq hbq hbqn
   refine AllReadyIn.cons rfl (fun K hK => ?_) ?_
   · go_simp
     refine hK _ _ ?_
     rw [hR]; exact H011100000010000 W acc bq hbq hbqn
   refine AllReadyIn.cons rfl (fun K hK => ?_) ?_
   · go_simp
     refine hK _ _ ?_
     rw [hR]; exact H011000000011000 (W.alloc (.cells #[.int .u64 0, .slice none 0 0] 25)) (acc.alloc acc.size _) bq (hbq.alloc _) hbqn W.heap.size (Var.new W W.heap.size _ _ _ _ rfl) acc.size (Nat.ne_of_lt hbq.lt)
   exact AllReadyIn.nil
 have H011000000001000 : ∀ (W : World) (acc : Below w1.heap.size w1 W) (br : Nat) (hbr : Var W br (.int .u64 0) (.slice none 0 0)) (hbrn : w1.heap.size ≤ br), R 12 #[false, true, true, false, false, false, false, false, false, false, false, true, false, false, false] { tmps := #[.agg #[.int .u64 x, .slice p l c], .slice pv xs.length cv, .slice (some ⟨pb, 0, none⟩) (k + 1) cp, .pointer (some ⟨w.heap.size, 0, none⟩), undef, undef, .slice none 0 0, undef, .int .i64 (k : Int), undef, .pointer (some ⟨br, 0, none⟩), undef, .slice (some ⟨pb, 0, none⟩) (k + 1) cp, .int .i64 ((k : Int) + 1), .bool false, undef, undef, undef, undef, undef, undef, undef, undef, undef, undef, undef, .slice (some ⟨pb, 0, none⟩) (k + 1) cp, .int .i64 ((k : Int) + 1), .int .i64 (k : Int), undef, undef, .slice (some ⟨pb, 0, none⟩) (k + 1) cp, .int .i64 (k : Int), undef, undef, undef, undef, undef, undef, undef, undef, undef, undef, undef, undef, undef, undef, undef, undef, undef, undef], defers := [] } W := by
   intro W acc br hbr hbrn
   rw [← hR]
   have c00 := (u0.below acc l0).c0
   have c01 := (u0.below acc l0).c1
   have q0 := (bcell acc).1 pb (k * 2) lpb1 ▸ q0
   have q1 := (bcell acc).1 pb (k * 2 + 1) lpb1 ▸ q1
   refine wpAnyIn_ready (rs := [0, 3, 10]) (by kernel_rfl) (by simp) ?_
   refine AllReadyIn.cons rfl (fun K hK => ?_) ?_
   · go_simp
     refine hK _ _ ?_
     rw [hR]; exact H111000000001000 W acc br hbr hbrn
   refine AllReadyIn.cons rfl (fun K hK => ?_) ?_
   · go_simp
     refine hK _ _ ?_
     rw [hR]; exact H011100000001000 W acc br hbr hbrn
   refine AllReadyIn.cons rfl (fun K hK => ?_) ?_
   · go_simp
     refine hK _ _ ?_
     rw [hR]; exact H011000000011000 (W.alloc (.cells #[.int .u64 0, .slice none 0 0] 25)) (acc.alloc acc.size _) W.heap.size (Var.new W W.heap.size _ _ _ _ rfl) acc.size br (hbr.alloc _) hbrn (Nat.ne_of_gt hbr.lt)
   exact AllReadyIn.nil
 have H011000000000000 : ∀ (W : World) (acc : Below w1.heap.size w1 W), R 13 #[false, true, true, false, false, false, false, false, false, false, false, false, false, false, false] { tmps := #[.agg #[.int .u64 x, .slice p l c], .slice pv xs.length cv, .slice (some ⟨pb, 0, none⟩) (k + 1) cp, .pointer (some ⟨w.heap.size, 0, none⟩), undef, undef, .slice none 0 0, undef, .int .i64 (k : Int), undef, undef, undef, .slice (some ⟨pb, 0, none⟩) (k + 1) cp, .int .i64 ((k : Int) + 1), .bool false, undef, undef, undef, undef, undef, undef, undef, undef, undef, undef, undef, .slice (some ⟨pb, 0, none⟩) (k + 1) cp, .int .i64 ((k : Int) + 1), .int .i64 (k : Int), undef, undef, .slice (some ⟨pb, 0, none⟩) (k + 1) cp, .int .i64 (k : Int), undef, undef, undef, undef, undef, undef, undef, undef, undef, undef, undef, undef, undef, undef, undef, undef, undef, undef], defers := [] } W := by
   intro W acc
   rw [← hR]
   have c00 := (u0.below acc l0).c0
   have c01 := (u0.below acc l0).c1
   have q0 := (bcell acc).1 pb (k * 2) lpb1 ▸ q0
   have q1 := (bcell acc).1 pb (k * 2 + 1) lpb1 ▸ q1
   refine wpAnyIn_ready (rs := [0, 3, 10, 11]) (by kernel_rfl) (by simp) ?_
   refine AllReadyIn.cons rfl (fun K hK => ?_) ?_
   · go_simp
     refine hK _ _ ?_
     rw [hR]; exact H111000000000000 W acc
   refine AllReadyIn.cons rfl (fun K hK => ?_) ?_
   · go_simp
     refine hK _ _ ?_
     rw [hR]; exact H011100000000000 W acc
   refine AllReadyIn.cons rfl (fun K hK => ?_) ?_
   · go_simp
     refine hK _ _ ?_
     rw [hR]; exact H011000000010000 (W.alloc (.cells #[.int .u64 0, .slice none 0 0] 25)) (acc.alloc acc.size _) W.heap.size (Var.new W W.heap.size _ _ _ _ rfl) acc.size
   refine AllReadyIn.cons rfl (fun K hK => ?_) ?_
   · go_simp
     refine hK _ _ ?_
     rw [hR]; exact H011000000001000 (W.alloc (.cells #[.int .u64 0, .slice none 0 0] 25)) (acc.alloc acc.size _) W.heap.size (Var.new W W.heap.size _ _ _ _ rfl) acc.size
   exact AllReadyIn.nil
 have H010000000011000 : ∀ (W : World) (acc : Below w1.heap.size w1 W) (bq : Nat) (hbq : Var W bq (.int .u64 0) (.slice none 0 0)) (hbqn : w1.heap.size ≤ bq) (br : Nat) (hbr : Var W br (.int .u64 0) (.slice none 0 0)) (hbrn : w1.heap.size ≤ br) (hcd : bq ≠ br), R 12 #[false, true, false, false, false, false, false, false, false, false, true, true, false, false, false] { tmps := #[.agg #[.int .u64 x, .slice p l c], .slice pv xs.length cv, .slice (some ⟨pb, 0, none⟩) (k + 1) cp, .pointer (some ⟨w.heap.size, 0, none⟩), undef, undef, .slice none 0 0, undef, .int .i64 (k : Int), .pointer (some ⟨bq, 0, none⟩), .pointer (some ⟨br, 0, none⟩), undef, .slice (some ⟨pb, 0, none⟩) (k + 1) cp, .int .i64 ((k : Int) + 1), .bool false, undef, undef, undef, undef, undef, undef, undef, undef, undef, undef, undef, .slice (some ⟨pb, 0, none⟩) (k + 1) cp, .int .i64 ((k : Int) + 1), .int .i64 (k : Int), undef, undef, .slice (some ⟨pb, 0, none⟩) (k + 1) cp, undef, undef, undef, undef, undef, undef, undef, undef, undef, undef, undef, undef, undef, undef, undef, undef, undef, undef, undef], defers := [] } W := by
   intro W acc bq hbq hbqn br hbr hbrn hcd
   rw [← hR]
   have c00 := (u0.below acc l0).c0
   have c01 := (u0.below acc l0).c1
   have q0 := (bcell acc).1 pb (k * 2) lpb1 ▸ q0
   have q1 := (bcell acc).1 pb (k * 2 + 1) lpb1 ▸ q1
   refine wpAnyIn_ready (rs := [0, 2]) (by kernel_rfl) (by simp) ?_
   refine AllReadyIn.cons rfl (fun K hK => ?_) ?_
   · go_simp
     refine hK _ _ ?_
     rw [hR]; exact H110000000011000 W acc bq hbq hbqn br hbr hbrn hcd
   refine AllReadyIn.cons rfl (fun K hK => ?_) ?_
   · go_simp
     refine hK _ _ ?_
     rw [hR]; exact H011000000011000 W acc bq hbq hbqn br hbr hbrn hcd
   exact AllReadyIn.nil
 have H010000000010000 : ∀ (W : World) (acc : Below w1.heap.size w1 W) (bq : Nat) (hbq : Var W bq (.int .u64 0) (.slice none 0 0)) (hbqn : w1.heap.size ≤ bq), R 13 #[false, true, false, false, false, false, false, false, false, false, true, false, false, false, false] { tmps := #[.agg #[.int .u64 x, .slice p l c], .slice pv xs.length cv, .slice (some ⟨pb, 0, none⟩) (k + 1) cp, .pointer (some ⟨w.heap.size, 0, none⟩), undef, undef, .slice none 0 0, undef, .int .i64 (k : Int), .pointer (some ⟨bq, 0, none⟩), undef, undef, .slice (some ⟨pb, 0, none⟩) (k + 1) cp, .int .i64 ((k : Int) + 1), .bool false, undef, undef, undef, undef, undef, undef, undef, undef, undef, undef, undef, .slice (some ⟨pb, 0, none⟩) (k + 1) cp, .int .i64 ((k : Int) + 1), .int .i64 (k : Int), undef, undef, .slice (some ⟨pb, 0, none⟩) (k + 1) cp, undef, undef, undef, undef, undef, undef, undef, undef, undef, undef, undef, undef, undef, undef, undef, undef, undef, undef, undef], defers := [] } W := by
   intro W acc bq hbq hbqn
   rw [← hR]
   have c00 := (u0.below acc l0).c0
   have c01 := (u0.below acc l0).c1
   have q0 := (bcell acc).1 pb (k * 2) lpb1 ▸ q0
   have q1 := (bcell acc).1 pb (k * 2 + 1) lpb1 ▸ q1
   refine wpAnyIn_ready (rs := [0, 2, 11]) (by kernel_rfl) (by simp) ?_
   refine AllReadyIn.cons rfl (fun K hK => ?_) ?_
   · go_simp
     refine hK _ _ ?_
     rw [hR]; exact H110000000010000 W acc bq hbq hbqn
   refine AllReadyIn.cons rfl (fun K hK => ?_) ?_
   · go_simp
     refine hK _ _ ?_
     rw [hR]; exact H011000000010000 W acc bq hbq hbqn
   refine AllReadyIn.cons rfl (fun K hK => ?_) ?_
   · go_simp
     refine hK _ _ ?_
     rw [hR]; exact H010000000011000 (W.alloc (.cells #[.int .u64 0, .slice none 0 0] 25)) (acc.alloc acc.size _) bq (hbq.alloc _) hbqn W.heap.size (Var.new W W.heap.size _ _ _ _ rfl) acc.size (Nat.ne_of_lt hbq.lt)
   exact AllReadyIn.nil
 have H010000000001000 : ∀ (W : World) (acc : Below w1.heap.size w1 W) (br : Nat) (hbr : Var W br (.int .u64 0) (.slice none 0 0)) (hbrn : w1.heap.size ≤ br), R 13 #[false, true, false, false, false, false, false, false, false, false, false, true, false, false, false] { tmps := #[.agg #[.int .u64 x, .slice p l c], .slice pv xs.length cv, .slice (some ⟨pb, 0, none⟩) (k + 1) cp, .pointer (some ⟨w.heap.size, 0, none⟩), undef, undef, .slice none 0 0, undef, .int .i64 (k : Int), undef, .pointer (some ⟨br, 0, none⟩), undef, .slice (some ⟨pb, 0, none⟩) (k + 1) cp, .int .i64 ((k : Int) + 1), .bool false, undef, undef, undef, undef, undef, undef, undef, undef, undef, undef, undef, .slice (some ⟨pb, 0, none⟩) (k + 1) cp, .int .i64 ((k : Int) + 1), .int .i64 (k : Int), undef, undef, .slice (some ⟨pb, 0, none⟩) (k + 1) cp, undef, undef, undef, undef, undef, undef, undef, undef, undef, undef, undef, undef, undef, undef, undef, undef, undef, undef, undef], defers := [] } W := by
   intro W acc br hbr hbrn
   rw [← hR]
   have c00 := (u0.below acc l0).c0
   have c01 := (u0.below acc l0).c1
   have q0 := (bcell acc).1 pb (k * 2) lpb1 ▸ q0
   have q1 := (bcell acc).1 pb (k * 2 + 1) lpb1 ▸ q1
   refine wpAnyIn_ready (rs := [0, 2, 10]) (by kernel_rfl) (by simp) ?_
   refine AllReadyIn.cons rfl (fun K hK => ?_) ?_
   · go_simp
     refine hK _ _ ?_
     rw [hR]; exact H110000000001000 W acc br hbr hbrn
   refine AllReadyIn.cons rfl (fun K hK => ?_) ?_
   · go_simp
     refine hK _ _ ?_
     rw [hR]; exact H011000000001000 W acc br hbr hbrn
   refine AllReadyIn.cons rfl (fun K hK => ?_) ?_
   · go_simp
     refine hK _ _ ?_
     rw [hR]; exact H010000000011000 (W.alloc (.cells #[.int .u64 0, .slice none 0 0] 25)) (acc.alloc acc.size _) W.heap.size (Var.new W W.heap.size _ _ _ _ rfl) acc.size br (hbr.alloc _) hbrn (Nat.ne_of_gt hbr.lt)
   exact AllReadyIn.nil
 have H010000000000000 : ∀ (W : World) (acc : Below w1.heap.size w1 W), R 14 #[false, true, false, false, false, false, false, false, false, false, false, false, false, false, false] { tmps := #[.agg #[.int .u64 x, .slice p l c], .slice pv xs.length cv, .slice (some ⟨pb, 0, none⟩) (k + 1) cp, .pointer (some ⟨w.heap.size, 0, none⟩), undef, undef, .slice none 0 0, undef, .int .i64 (k : Int), undef, undef, undef, .slice (some ⟨pb, 0, none⟩) (k + 1) cp, .int .i64 ((k : Int) + 1), .bool false, undef, undef, undef, undef, undef, undef, undef, undef, undef, undef, undef, .slice (some ⟨pb, 0, none⟩) (k + 1) cp, .int .i64 ((k : Int) + 1), .int .i64 (k : Int), undef, undef, .slice (some ⟨pb, 0, none⟩) (k + 1) cp, undef, undef, undef, undef, undef, undef, undef, undef, undef, undef, undef, undef, undef, undef, undef, undef, undef, undef, undef], defers := [] } W := by
   intro W acc
   rw [← hR]
   have c00 := (u0.below acc l0).c0
   have c01 := (u0.below acc l0).c1
   have q0 := (bcell acc).1 pb (k * 2) lpb1 ▸ q0
   have q1 := (bcell acc).1 pb (k * 2 + 1) lpb1 ▸ q1
   refine wpAnyIn_ready (rs := [0, 2, 10, 11]) (by kernel_rfl) (by simp) ?_
   refine AllReadyIn.cons rfl (fun K hK => ?_) ?_
   · go_simp
     refine hK _ _ ?_
     rw [hR]; exact H110000000000000 W acc
   refine AllReadyIn.cons rfl (fun K hK => ?_) ?_
   · go_simp
     refine hK _ _ ?_
     rw [hR]; exact H011000000000000 W acc
   refine AllReadyIn.cons rfl (fun K hK => ?_) ?_
   · go_simp
     refine hK _ _ ?_
     rw [hR]; exact H010000000010000 (W.alloc (.cells #[.int .u64 0, .slice none 0 0] 25)) (acc.alloc acc.size _) W.heap.size (Var.new W W.heap.size _ _ _ _ rfl) acc.size
   refine AllReadyIn.cons rfl (fun K hK => ?_) ?_
   · go_simp
     refine hK _ _ ?_
     rw [hR]; exact H010000000001000 (W.alloc (.cells #[.int .u64 0, .slice none 0 0] 25)) (acc.alloc acc.size _) W.heap.size (Var.new W W.heap.size _ _ _ _ rfl) acc.size
   exact AllReadyIn.nil
 have H001000000011000 : ∀ (W : World) (acc : Below w1.heap.size w1 W) (bq : Nat) (hbq : Var W bq (.int .u64 0) (.slice none 0 0)) (hbqn : w1.heap.size ≤ bq) (br : Nat) (hbr : Var W br (.int .u64 0) (.slice none 0 0)) (hbrn : w1.heap.size ≤ br) (hcd : bq ≠ br), R 12 #[false, false, true, false, false, false, false, false, false, false, true, true, false, false, false] { tmps := #[.agg #[.int .u64 x, .slice p l c], .slice pv xs.length cv, .slice (some ⟨pb, 0, none⟩) (k + 1) cp, .pointer (some ⟨w.heap.size, 0, none⟩), undef, undef, .slice none 0 0, undef, .int .i64 (k : Int), .pointer (some ⟨bq, 0, none⟩), .pointer (some ⟨br, 0, none⟩), undef, .slice (some ⟨pb, 0, none⟩) (k + 1) cp, .int .i64 ((k : Int) + 1), .bool false, undef, undef, undef, undef, undef, undef, undef, undef, undef, undef, undef, .slice (some ⟨pb, 0, none⟩) (k + 1) cp, .int .i64 ((k : Int) + 1), .int .i64 (k : Int), undef, undef, undef, .int .i64 (k : Int), undef, undef, undef, undef, undef, undef, undef, undef, undef, undef, undef, undef, undef, undef, undef, undef, undef, undef], defers := [] } W := by
   intro W acc bq hbq hbqn br hbr hbrn hcd
   rw [← hR]
   have c00 := (u0.below acc l0).c0
   have c01 := (u0.below acc l0).c1
   have q0 := (bcell acc).1 pb (k * 2) lpb1 ▸ q0
   have q1 := (bcell acc).1 pb (k * 2 + 1) lpb1 ▸ q1
   refine wpAnyIn_ready (rs := [0, 1]) (by kernel_rfl) (by simp) ?_
   refine AllReadyIn.cons rfl (fun K hK => ?_) ?_
   · go_simp
     refine hK _ _ ?_
     rw [hR]; exact H101000000011000 W acc bq hbq hbqn br hbr hbrn hcd
   refine AllReadyIn.cons rfl (fun K hK => ?_) ?_
   · go_simp
     refine hK _ _ ?_
     rw [hR]; exact H011000000011000 W acc bq hbq hbqn br hbr hbrn hcd
   exact AllReadyIn.nil
 have H001000000010000 : ∀ (W : World) (acc : Below w1.heap.size w1 W) (bq : Nat) (hbq : Var W bq (.int .u64 0) (.slice none 0 0)) (hbqn : w1.heap.size ≤ bq), R 13 #[false, false, true, false, false, false, false, false, false, false, true, false, false, false, false] { tmps := #[.agg #[.int .u64 x, .slice p l c], .slice pv xs.length cv, .slice (some ⟨pb, 0, none⟩) (k + 1) cp, .pointer (some ⟨w.heap.size, 0, none⟩), undef, undef, .slice none 0 0, undef, .int .i64 (k : Int), .pointer (some ⟨bq, 0, none⟩), undef, undef, .slice (some ⟨pb, 0, none⟩) (k + 1) cp, .int .i64 ((k : Int) + 1), .bool false, undef, undef, undef, undef, undef, undef, undef, undef, undef, undef, undef, .slice (some ⟨pb, 0, none⟩) (k + 1) cp, .int .i64 ((k : Int) + 1), .int .i64 (k : Int), undef, undef, undef, .int .i64 (k : Int), undef, undef, undef, undef, undef, undef, undef, undef, undef, undef, undef, undef, undef, undef, undef, undef, undef, undef], defers := [] } W := by
   intro W acc bq hbq hbqn
   rw [← hR]
   have c00 := (u0.below acc l0).c0
   have c01 := (u0.below acc l0).c1
   have q0 := (bcell acc).1 pb (k * 2) lpb1 ▸ q0
   have q1 := (bcell acc).1 pb (k * 2 + 1) lpb1 ▸ q1
   refine wpAnyIn_ready (rs := [0, 1, 11]) (by kernel_rfl) (by simp) ?_
   refine AllReadyIn.cons rfl (fun K hK => ?_) ?_
   · go_simp
     refine hK _ _ ?_
     rw [hR]; exact H101000000010000 W acc bq hbq hbqn
   refine AllReadyIn.cons rfl (fun K hK => ?_) ?_
   · go_simp
     refine hK _ _ ?_
     rw [hR]; exact H011000000010000 W acc bq hbq hbqn
   refine AllReadyIn.cons rfl (fun K hK => ?_) ?_
   · go_simp
     refine hK _ _ ?_
     rw [hR]; exact H001000000011000 (W.alloc (.cells #[.int .u64 0, .slice none 0 0] 25)) (acc.alloc acc.size _) bq (hbq.alloc _) hbqn W.heap.size (Var.new W W.heap.size _ _ _ _ rfl) acc.size (Nat.ne_of_lt hbq.lt)
   exact AllReadyIn.nil
 have H001000000001000 : ∀ (W : World) (acc : Below w1.heap.size w1 W) (br : Nat) (hbr : Var W br (.int .u64 0) (.slice none 0 0)) (hbrn : w1.heap.size ≤ br), R 13 #[false, false, true, false, false, false, false, false, false, false, false, true, false, false, false] { tmps := #[.agg #[.int .u64 x, .slice p l c], .slice pv xs.length cv, .slice (some ⟨pb, 0, none⟩) (k + 1) cp, .pointer (some ⟨w.heap.size, 0, none⟩), undef, undef, .slice none 0 0, undef, .int .i64 (k : Int), undef, .pointer (some ⟨br, 0, none⟩), undef, .slice (some ⟨pb, 0, none⟩) (k + 1) cp, .int .i64 ((k : Int) + 1), .bool false, undef, undef, undef, undef, undef, undef, undef, undef, undef, undef, undef, .slice (some ⟨pb, 0, none⟩) (k + 1) cp, .int .i64 ((k : Int) + 1), .int .i64 (k : Int), undef, undef, undef, .int .i64 (k : Int), undef, undef, undef, undef, undef, undef, undef, undef, undef, undef, undef, undef, undef, undef, undef, undef, undef, undef], defers := [] } W := by
   intro W acc br hbr hbrn
   rw [← hR]
   have c00 := (u0.below acc l0).c0
   have c01 := (u0.below acc l0).c1
   have q0 := (bcell acc).1 pb (k * 2) lpb1 ▸ q0
   have q1 := (bcell acc).1 pb (k * 2 + 1) lpb1 ▸ q1
   refine wpAnyIn_ready (rs := [0, 1, 10]) (by kernel_rfl) (by simp) ?_
   refine AllReadyIn.cons rfl (fun K hK => ?_) ?_
   · go_simp
     refine hK _ _ ?_
     rw [hR]; exact H101000000001000 W acc br hbr hbrn
   refine AllReadyIn.cons rfl (fun K hK => ?_) ?_
   · go_simp
     refine hK _ _ ?_
     rw [hR]; exact H011000000001000 W acc br hbr hbrn
   refine AllReadyIn.cons rfl (fun K hK => ?_) ?_
   · go_simp
     refine hK _ _ ?_
     rw [hR]; exact H001000000011000 (W.alloc (.cells #[.int .u64 0, .slice none 0 0] 25)) (acc.alloc acc.size _) W.heap.size (Var.new W W.heap.size _ _ _ _ rfl) acc.size br (hbr.alloc _) hbrn (Nat.ne_of_gt hbr.lt)
   exact AllReadyIn.nil
 have H001000000000000 : ∀ (W : World) (acc : Below w1.heap.size w1 W), R 14 #[false, false, true, false, false, false, false, false, false, false, false, false, false, false, false] { tmps := #[.agg #[.int .u64 x, .slice p l c], .slice pv xs.length cv, .slice (some ⟨pb, 0, none⟩) (k + 1) cp, .pointer (some ⟨w.heap.size, 0, none⟩), undef, undef, .slice none 0 0, undef, .int .i64 (k : Int), undef, undef, undef, .slice (some ⟨pb, 0, none⟩) (k + 1) cp, .int .i64 ((k : Int) + 1), .bool false, undef, undef, undef, undef, undef, undef, undef, undef, undef, undef, undef, .slice (some ⟨pb, 0, none⟩) (k + 1) cp, .int .i64 ((k : Int) + 1), .int .i64 (k : Int), undef, undef, undef, .int .i64 (k : Int), undef, undef, undef, undef, undef, undef, undef, undef, undef, undef, undef, undef, undef, undef, undef, undef, undef, undef], defers := [] } W := by
   intro W acc
   rw [← hR]
   have c00 := (u0.below acc l0).c0
   have c01 := (u0.below acc l0).c1
   have q0 := (bcell acc).1 pb (k * 2) lpb1 ▸ q0
   have q1 := (bcell acc).1 pb (k * 2 + 1) lpb1 ▸ q1
   refine wpAnyIn_ready (rs := [0, 1, 10, 11]) (by kernel_rfl) (by simp) ?_
   refine AllReadyIn.cons rfl (fun K hK => ?_) ?_
   · go_simp
     refine hK _ _ ?_
     rw [hR]; exact H101000000000000 W acc
   refine AllReadyIn.cons rfl (fun K hK => ?_) ?_
   · go_simp
     refine hK _ _ ?_
     rw [hR]; exact H011000000000000 W acc
   refine AllReadyIn.cons rfl (fun K hK => ?_) ?_
   · go_simp
     refine hK _ _ ?_
     rw [hR]; exact H001000000010000 (W.alloc (.cells #[.int .u64 0, .slice none 0 0] 25)) (acc.alloc acc.size _) W.heap.size (Var.new W W.heap.size _ _ _ _ rfl) acc.size
   refine AllReadyIn.cons rfl (fun K hK => ?_) ?_
   · go_simp
     refine hK _ _ ?_
     rw [hR]; exact H001000000001000 (W.alloc (.cells #[.int .u64 0, .slice none 0 0] 25)) (acc.alloc acc.size _) W.heap.size (Var.new W W.heap.size _ _ _ _ rfl) acc.size
   exact AllReadyIn.nil
 have H000000000011000 : ∀ (W : World) (acc : Below w1.heap.size w1 W) (bq : Nat) (hbq : Var W bq (.int .u64 0) (.slice none 0 0)) (hbqn : w1.heap.size ≤ bq) (br : Nat) (hbr : Var W br (.int .u64 0) (.slice none 0 0)) (hbrn : w1.heap.size ≤ br) (hcd : bq ≠ br), R 13 #[false, false, false, false, false, false, false, false, false, false, true, true, false, false, false] { tmps := #[.agg #[.int .u64 x, .slice p l c], .slice pv xs.length cv, .slice (some ⟨pb, 0, none⟩) (k + 1) cp, .pointer (some ⟨w.heap.size, 0, none⟩), undef, undef, .slice none 0 0, undef, .int .i64 (k : Int), .pointer (some ⟨bq, 0, none⟩), .pointer (some ⟨br, 0, none⟩), undef, .slice (some ⟨pb, 0, none⟩) (k + 1) cp, .int .i64 ((k : Int) + 1), .bool false, undef, undef, undef, undef, undef, undef, undef, undef, undef, undef, undef, .slice (some ⟨pb, 0, none⟩) (k + 1) cp, .int .i64 ((k : Int) + 1), .int .i64 (k : Int), undef, undef, undef, undef, undef, undef, undef, undef, undef, undef, undef, undef, undef, undef, undef, undef, undef, undef, undef, undef, undef, undef], defers := [] } W := by
   intro W acc bq hbq hbqn br hbr hbrn hcd
   rw [← hR]
   have c00 := (u0.below acc l0).c0
   have c01 := (u0.below acc l0).c1
   have q0 := (bcell acc).1 pb (k * 2) lpb1 ▸ q0
   have q1 := (bcell acc).1 pb (k * 2 + 1) lpb1 ▸ q1
   refine wpAnyIn_ready (rs := [0, 1, 2]) (by kernel_rfl) (by simp) ?_
   refine AllReadyIn.cons rfl (fun K hK => ?_) ?_
   · go_simp
     refine hK _ _ ?_
     rw [hR]; exact H100000000011000 W acc bq hbq hbqn br hbr hbrn hcd
   refine AllReadyIn.cons rfl (fun K hK => ?_) ?_
   · go_simp
     refine hK _ _ ?_
     rw [hR]; exact H010000000011000 W acc bq hbq hbqn br hbr hbrn hcd
   refine AllReadyIn.cons rfl (fun K hK => ?_) ?_
   · go_simp
     refine hK _ _ ?_
     rw [hR]; exact H001000000011000 W acc bq hbq hbqn br hbr hbrn hcd
   exact AllReadyIn.nil
 have H000000000010000 : ∀ (W : World) (acc : Below w1.heap.size w1 W) (bq : Nat) (hbq : Var W bq (.int .u64 0) (.slice none 0 0)) (hbqn : w1.heap.size ≤ bq), R 14 #[false, false, false, false, false, false, false, false, false, false, true, false, false, false, false] { tmps := #[.agg #[.int .u64 x, .slice p l c], .slice pv xs.length cv, .slice (some ⟨pb, 0, none⟩) (k + 1) cp, .pointer (some ⟨w.heap.size, 0, none⟩), undef, undef, .slice none 0 0, undef, .int .i64 (k : Int), .pointer (some ⟨bq, 0, none⟩), undef, undef, .slice (some ⟨pb, 0, none⟩) (k + 1) cp, .int .i64 ((k : Int) + 1), .bool false, undef, undef, undef, undef, undef, undef, undef, undef, undef, undef, undef, .slice (some ⟨pb, 0, none⟩) (k + 1) cp, .int .i64 ((k : Int) + 1), .int .i64 (k : Int), undef, undef, undef, undef, undef, undef, undef, undef, undef, undef, undef, undef, undef, undef, undef, undef, undef, undef, undef, undef, undef, undef], defers := [] } W := by
   intro W acc bq hbq hbqn
   rw [← hR]
   have c00 := (u0.below acc l0).c0
   have c01 := (u0.below acc l0).c1
   have q0 := (bcell acc).1 pb (k * 2) lpb1 ▸ q0
   have q1 := (bcell acc).1 pb (k * 2 + 1) lpb1 ▸ q1
   refine wpAnyIn_ready (rs := [0, 1, 2, 11]) (by kernel_rfl) (by simp) ?_
   refine AllReadyIn.cons rfl (fun K hK => ?_) ?_
   · go_simp
     refine hK _ _ ?_
     rw [hR]; exact H100000000010000 W acc bq hbq hbqn
   refine AllReadyIn.cons rfl (fun K hK => ?_) ?_
   · go_simp
     refine hK _ _ ?_
     rw [hR]; exact H010000000010000 W acc bq hbq hbqn
   refine AllReadyIn.cons rfl (fun K hK => ?_) ?_
   · go_simp
     refine hK _ _ ?_
     rw [hR]; exact H001000000010000 W acc bq hbq hbqn
   refine AllReadyIn.cons rfl (fun K hK => ?_) ?_
   · go_simp
     refine hK _ _ ?_
     rw [hR]; exact H000000000011000 (W.alloc (.cells #[.int .u64 0, .slice none 0 0] 25)) (acc.alloc acc.size _) bq (hbq.alloc _) hbqn W.heap.size (Var.new W W.heap.size _ _ _ _ rfl) acc.size (Nat.ne_of_lt hbq.lt)
   exact AllReadyIn.nil
 have H000000000001000 : ∀ (W : World) (acc : Below w1.heap.size w1 W) (br : Nat) (hbr : Var W br (.int .u64 0) (.slice none 0 0)) (hbrn : w1.heap.size ≤ br), R 14 #[false, false, false, false, false, false, false, false, false, false, false, true, false, false, false] { tmps := #[.agg #[.int .u64 x, .slice p l c], .slice pv xs.length cv, .slice (some ⟨pb, 0, none⟩) (k + 1) cp, .pointer (some ⟨w.heap.size, 0, none⟩), undef, undef, .slice none 0 0, undef, .int .i64 (k : Int), undef, .pointer (some ⟨br, 0, none⟩), undef, .slice (some ⟨pb, 0, none⟩) (k + 1) cp, .int .i64 ((k : Int) + 1), .bool false, undef, undef, undef, undef, undef, undef, undef, undef, undef, undef, undef, .slice (some ⟨pb, 0, none⟩) (k + 1) cp, .int .i64 ((k : Int) + 1), .int .i64 (k : Int), undef, undef, undef, undef, undef, undef, undef, undef, undef, undef, undef, undef, undef, undef, undef, undef, undef, undef, undef, undef, undef, undef], defers := [] } W := by
   intro W acc br hbr hbrn
   rw [← hR]
   have c00 := (u0.below acc l0).c0
   have c01 := (u0.below acc l0).c1
   have q0 := (bcell acc).1 pb (k * 2) lpb1 ▸ q0
   have q1 := (bcell acc).1 pb (k * 2 + 1) lpb1 ▸ q1
   refine wpAnyIn_ready (rs := [0, 1, 2, 10]) (by kernel_rfl) (by simp) ?_
   refine AllReadyIn.cons rfl (fun K hK => ?_) ?_
   · go_simp
     refine hK _ _ ?_
     rw [hR]; exact H100000000001000 W acc br hbr hbrn
   refine AllReadyIn.cons rfl (fun K hK => ?_) ?_
   · go_simp
     refine hK _ _ ?_
     rw [hR]; exact H010000000001000 W acc br hbr hbrn
   refine AllReadyIn.cons rfl (fun K hK => ?_) ?_
   · go_simp
     refine hK _ _ ?_
     rw [hR]; exact H001000000001000 W acc br hbr hbrn
   refine AllReadyIn.cons rfl (fun K hK => ?_) ?_
   · go_simp
     refine hK _ _ ?_
     rw [hR]; exact H000000000011000 (W.alloc (.cells #[.int .u64 0, .slice none 0 0] 25)) (acc.alloc acc.size _) W.heap.size (Var.new W W.heap.size _ _ _ _ rfl) acc.size br (hbr.alloc _) hbrn (Nat.ne_of_gt hbr.lt)
   exact AllReadyIn.nil
 have H000000000000000 : ∀ (W : World) (acc : Below w1.heap.size w1 W), R 15 #[false, false, false, false, false, false, false, false, false, false, false, false, false, false, false] { tmps := #[.agg #[.int .u64 x, .slice p l c], .slice pv xs.length cv, .slice (some ⟨pb, 0, none⟩) (k + 1) cp, .pointer (some ⟨w.heap.size, 0, none⟩), undef, undef, .slice none 0 0, undef, .int .i64 (k : Int), undef, undef, undef, .slice (some ⟨pb, 0, none⟩) (k + 1) cp, .int .i64 ((k : Int) + 1), .bool false, undef, undef, undef, undef, undef, undef, undef, undef, undef, undef, undef, .slice (some ⟨pb, 0, none⟩) (k + 1) cp, .int .i64 ((k : Int) + 1), .int .i64 (k : Int), undef, undef, undef, undef, undef, undef, undef, undef, undef, undef, undef, undef, undef, undef, undef, undef, undef, undef, undef, undef, undef, undef], defers := [] } W := by
   intro W acc
   rw [← hR]
   have c00 := (u0.below acc l0).c0
   have c01 := (u0.below acc l0).c1
   have q0 := (bcell acc).1 pb (k * 2) lpb1 ▸ q0
   have q1 := (bcell acc).1 pb (k * 2 + 1) lpb1 ▸ q1
   refine wpAnyIn_ready (rs := [0, 1, 2, 10, 11]) (by kernel_rfl) (by simp) ?_
   refine AllReadyIn.cons rfl (fun K hK => ?_) ?_
   · go_simp
     refine hK _ _ ?_
     rw [hR]; exact H100000000000000 W acc
   refine AllReadyIn.cons rfl (fun K hK => ?_) ?_
   · go_simp
     refine hK _ _ ?_
     rw [hR]; exact H010000000000000 W acc
   refine AllReadyIn.cons rfl (fun K hK => ?_) ?_
   · go_simp
     refine hK _ _ ?_
     rw [hR]; exact H001000000000000 W acc
   refine AllReadyIn.cons rfl (fun K hK => ?_) ?_
   · go_simp
     refine hK _ _ ?_
     rw [hR]; exact H000000000010000 (W.alloc (.cells #[.int .u64 0, .slice none 0 0] 25)) (acc.alloc acc.size _) W.heap.size (Var.new W W.heap.size _ _ _ _ rfl) acc.size
   refine AllReadyIn.cons rfl (fun K hK => ?_) ?_
   · go_simp
     refine hK _ _ ?_
     rw [hR]; exact H000000000001000 (W.alloc (.cells #[.int .u64 0, .slice none 0 0] 25)) (acc.alloc acc.size _) W.heap.size (Var.new W W.heap.size _ _ _ _ rfl) acc.size
   exact AllReadyIn.nil
 exact H000000000000000 w1.drew (Below.refl _ w1).drew
/-- appendDigits appends the number's digits, noughts ahead. -/
theorem digits_any (K : Nat) (hK : K ≤ 200) : ∀ (k cp pb : Nat) (a : Value) (A : Int) (v : Value) (xs : List Int) (B : Nat) (w : World), k ≤ 12 → k ≤ cp → Tab w → Pows w pb k → IsNat w a A → A < 10 ^ (19 * 2 ^ k) → A < pw K → B ≤ w.heap.size → Own w B .u8 5 v xs → xs.length + 19 * 2 ^ k ≤ 500000 →
    Calls Tryd.prog 33 #[a, v, .slice (some ⟨pb, 0, none⟩) k cp] w (RetDigits v xs B (19 * 2 ^ k) A w)
  | 0, cp, pb, a, A, v, xs, B, w, h12, hcp, htab, hpow, ha, hA, hAK, hB, hown, hxs => by
    have hA' : A < 10000000000000000000 := hA
    obtain ⟨u, rfl⟩ := Int.eq_ofNat_of_zero_le ha.nonneg
    have e := ha.one (by omega)
    subst e
    exact digits_none u (by omega) _ cp v xs B w htab hB hown (by omega)
  | k + 1, cp, pb, a, A, v, xs, B, w, h12, hcp, htab, hpow, ha, hA, hAK, hB, hown, hxs => by
    obtain ⟨x, p, l, c, rfl⟩ := ha.shape
    have e : 19 * 2 ^ (k + 1) = 19 * 2 ^ k + 19 * 2 ^ k := by rw [Nat.pow_succ]; omega
    have hk : 2 ^ k ≤ 2 ^ 12 := Nat.pow_le_pow_right (by decide) (by omega)
    rw [ten_split] at hA
    rw [e] at hxs ⊢
    exact digits_step K hK k (19 * 2 ^ k) (10 ^ (19 * 2 ^ k)) (by omega) rfl (Int.pow_pos (by decide)) (fun cp pb a A v xs B w h1 h2 h3 h4 h5 h6 h7 h8 h9 => digits_any K hK k cp pb a A v xs B w (by omega) h1 h2 h3 h4 h5 h6 h7 h8 h9) cp pb hcp (by omega) x p l c A v xs B w htab hpow rfl ha hA hAK hB hown hxs
end Go.Proofs.YtjoppmkknbpjbaaDoor
