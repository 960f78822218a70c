/- Contracts of the document's NatAdd and NatSub. -/
import Derived.Test.YtlkblgpekbeljaaGreatDoorRefMul
import Derived.LoopTactic
import Derived.Deep.RegionWith
import Derived.Deep.RegionHeld3
namespace Go.Proofs.YtlkblgpekbeljaaGreatDoor
open Go.RowKit
set_option linter.unusedVariables false

set_option maxRecDepth 100000 in
set_option maxHeartbeats 1000000 in
theorem natAdd_any (sa sb : Value) (A B : List Int) (w : World) (ha : Limbed w sa A) (hb : Limbed w sb B) (hsa : A.length ≤ 1048576) (hsb : B.length ≤ 1048576) :
    Calls Tryz.prog 59 #[sa,sb] w (RetNum (lval A + lval B) w) := by
  obtain ⟨pa,ca,rfl⟩ := ha.shape
  obtain ⟨pb,cb,rfl⟩ := hb.shape
  have hla := ha.short
  have hlb := hb.short
  have wa := ha.limbs
  have wb := hb.limbs
  obtain ⟨n,hn⟩ : ∃ n : Nat,max A.length B.length = n := ⟨_,rfl⟩
  have hni : max (A.length : Int) B.length = n := by omega
  have hnb : n ≤ 1048576 := by omega
  have hmk := make32 (n + 1) ((n : Int) + 1) (by omega) (by omega)
  have Hn := Lib.hid hn
  clear hn
  go_enter Tryz.func59,Tryz.ntmps59
  go_wp2_with (rw [hni])
  go_loopw [7,8] (fun c i wr => ∃ (k : Nat) (cv : Int) (lk : List Int),k ≤ n + 1 ∧ i = .int .i64 k ∧ c = .int .u64 cv ∧ SumAt A B lk (n + 1) k cv ∧ Arr wr w.heap.size 135 .u32 lk ∧ Below w.heap.size w wr) (fun _ i _ => n + 1 - (intOf i).toNat)
  case atStart => exact ⟨0,0,_,Nat.zero_le _,rfl,rfl,⟨.inl rfl,by simp,Limbs.replicate _,by simp [lval]⟩,Arr.zeros _ _ _ _ _ rfl,by go_grown⟩
  case round =>
    obtain ⟨k,cv,lk,hk,rfl,rfl,hat,hak,hB⟩ := hrel
    by_cases hlt : k ≤ n
    · have la := fun W (g : Below w.heap.size w W) => at_any ha k W g
      have lb := fun W (g : Below w.heap.size w W) => at_any hb k W g
      have hlen := hat.2.1
      have hco := hak.cell k (by omega)
      have hfo := hak.free k
      have xa := wa.getD k
      have xb := wb.getD k
      have hc := hat.1
      have st := hat.step wa wb (by omega)
      obtain ⟨x,hx⟩ : ∃ x,A.getD k 0 = x := ⟨_,rfl⟩
      obtain ⟨y,hy⟩ : ∃ y,B.getD k 0 = y := ⟨_,rfl⟩
      rw [hx] at la xa st
      rw [hy] at lb xb st
      obtain ⟨xa0,xa1⟩ := xa
      obtain ⟨xb0,xb1⟩ := xb
      have c0 : 0 ≤ cv := by omega
      have c1 : cv ≤ 1 := by omega
      have St := Lib.hid st
      have Hlen := Lib.hid hlen
      generalize lk.getD k 0 = z at hco
      clear st hlen hat hc hx hy hmk hni
      go_wp2_with (go_at_call 93; (first | (have q := la _ hB; (with_reducible refine q.mono ?_); clear q) | (have q := lb _ hB; (with_reducible refine q.mono ?_); clear q)); rintro e W1 ⟨rfl,rfl⟩)
      exact ⟨⟨k + 1,_,_,by omega,by go_num,rfl,St.out,hak.set _ _,hB.setCell (p := ⟨w.heap.size,k,none⟩) (Nat.le_refl _) _⟩,by simp [intOf]; omega⟩
    · obtain rfl : k = n + 1 := by omega
      have hd := hat.done wa wb (by have := Hn.out; omega) (by have := Hn.out; omega)
      have hw2 := hat.2.2.1
      have hlen := hat.2.1
      have tr := ltrim_any w.heap.size 135 (n + 1) (n + 1) lk wr hak (Nat.le_refl _) (by omega) (by omega)
      have l1 := trimLen_le lk (n + 1)
      have l2 := trimLen_last lk (n + 1)
      have l3 := lval_trim lk (n + 1) (by omega)
      generalize trimLen lk (n + 1) = m at tr l1 l2 l3
      have H2 := Lib.hid l2
      have H3 := Lib.hid (l3.trans hd)
      have Hlen := Lib.hid hlen
      clear l2 l3 hd hat hmk hni hlen
      go_wp2_with (go_at_call 90; refine tr.mono ?_; rintro e W1 ⟨rfl,rfl⟩)
      go_ret
      have hn := isNum_arr hak (len := m) (cap := n + 1) (by have := Hlen.out; omega) (by have := Hlen.out; omega) hw2 H2.out
      rw [H3.out] at hn
      exact ⟨_,rfl,hn,hB⟩
set_option maxRecDepth 100000 in
set_option maxHeartbeats 1000000 in
theorem natSub_any (sa sb : Value) (A B : List Int) (w : World) (ha : Limbed w sa A) (hb : Limbed w sb B) (hle : lval B ≤ lval A) (hz : B ≠ [] → B.getD (B.length - 1) 0 ≠ 0) :
    Calls Tryz.prog 60 #[sa,sb] w (RetNum (lval A - lval B) w) := by
  obtain ⟨pa,ca,rfl⟩ := ha.shape
  have hla := ha.short
  have wa := ha.limbs
  have wb := hb.limbs
  have hmk := make32 A.length A.length rfl (by omega)
  go_enter Tryz.func60,Tryz.ntmps60
  go_wp2_with fail
  go_loopw [6,7] (fun c i wr => ∃ (k : Nat) (cv : Int) (lk : List Int),k ≤ A.length ∧ i = .int .i64 k ∧ c = .int .u64 cv ∧ LessAt A B lk A.length k cv ∧ Arr wr w.heap.size 135 .u32 lk ∧ Below w.heap.size w wr) (fun _ i _ => A.length - (intOf i).toNat)
  case atStart => exact ⟨0,0,_,Nat.zero_le _,rfl,rfl,⟨.inl rfl,by simp,Limbs.replicate _,by simp [lval]⟩,Arr.zeros _ _ _ _ _ rfl,by go_grown⟩
  case round =>
    obtain ⟨k,cv,lk,hk,rfl,rfl,hat,hak,hB⟩ := hrel
    by_cases hlt : k < A.length
    · have lb := fun W (g : Below w.heap.size w W) => at_any hb k W g
      obtain ⟨rb,rt,rc,rl,hs,hra,hr1,hr2,hr3⟩ := ha.row (by omega)
      simp only [Value.slice.injEq] at hs
      obtain ⟨rfl,_,rfl⟩ := hs
      have hcx := Limbed.cell (hra.below hB hr3) hr1 hr2 k hlt
      have hlen := hat.2.1
      have hco := hak.cell k (by omega)
      have hfo := hak.free k
      have xa := wa.getD k
      have xb := wb.getD k
      have hc := hat.1
      have st := hat.step wa wb (by omega)
      obtain ⟨x,hx⟩ : ∃ x,A.getD k 0 = x := ⟨_,rfl⟩
      obtain ⟨y,hy⟩ : ∃ y,B.getD k 0 = y := ⟨_,rfl⟩
      rw [hx] at hcx xa st
      rw [hy] at lb xb st
      obtain ⟨xa0,xa1⟩ := xa
      obtain ⟨xb0,xb1⟩ := xb
      have c0 : 0 ≤ cv := by omega
      have c1 : cv ≤ 1 := by omega
      have St := Lib.hid st
      generalize lk.getD k 0 = z at hco
      have Ew : Hid (IntKind.u64.wrap (IntKind.u64.wrap (IntKind.u64.wrap x - y) - cv) = (x - y - cv) % 18446744073709551616) := Lib.hid (by simp only [IntKind.wrap_u64]; omega)
      have d0 : 0 ≤ (x - y - cv) % 18446744073709551616 := by omega
      have d1 : (x - y - cv) % 18446744073709551616 < 18446744073709551616 := by omega
      have hcx' : wr.drew.cell? ⟨rb,k,none⟩ = some (.int .u32 x) := hcx
      clear st hlen hat hc hx hy hmk
      go_wp2_with fail
      go_region_held3 (fun w' => w'.cell? ⟨rb,k,none⟩ = some (.int .u32 x)) (first | with_reducible exact hcx | with_reducible exact hcx') (first | (go_at_call 93; (first | (have q := lb _ hB; (with_reducible refine q.mono ?_); clear q) | (have q := lb _ hB.drew; (with_reducible refine q.mono ?_); clear q)); rintro e W1 ⟨rfl,rfl⟩))
      all_goals
        rw [Ew.out]
        generalize (x - y - cv) % 18446744073709551616 = D at St d0 d1
        go_wp2_with fail
        first | exact ⟨⟨k + 1,_,_,by omega,by go_num,rfl,St.out,hak.set _ _,hB.setCell (p := ⟨w.heap.size,k,none⟩) (Nat.le_refl _) _⟩,by simp [intOf]; omega⟩ | exact ⟨⟨k + 1,_,_,by omega,by go_num,rfl,St.out,hak.set _ _,(hB.setCell (p := ⟨w.heap.size,k,none⟩) (Nat.le_refl _) _).drew⟩,by simp [intOf]; omega⟩
    · obtain rfl : k = A.length := by omega
      have hd := hat.done rfl (llen_le wa wb hz hle) hle
      have hw2 := hat.2.2.1
      have hlen := hat.2.1
      have tr := ltrim_any w.heap.size 135 A.length A.length lk wr hak (Nat.le_refl _) (by omega) (by omega)
      have l1 := trimLen_le lk A.length
      have l2 := trimLen_last lk A.length
      have l3 := lval_trim lk A.length (by omega)
      generalize trimLen lk A.length = m at tr l1 l2 l3
      have H2 := Lib.hid l2
      have H3 := Lib.hid (l3.trans hd)
      have Hlen := Lib.hid hlen
      clear l2 l3 hd hat hmk hlen
      go_wp2_with (go_at_call 90; refine tr.mono ?_; rintro e W1 ⟨rfl,rfl⟩)
      go_ret
      have hn := isNum_arr hak (len := m) (cap := A.length) (by have := Hlen.out; omega) (by have := Hlen.out; omega) hw2 H2.out
      rw [H3.out] at hn
      exact ⟨_,rfl,hn,hB⟩
set_option maxRecDepth 100000 in
set_option maxHeartbeats 2000000 in
theorem natCmp_any (sa sb : Value) (A B : List Int) (w : World) (ha : Limbed w sa A) (hb : Limbed w sb B) (zA : A ≠ [] → A.getD (A.length - 1) 0 ≠ 0) (zB : B ≠ [] → B.getD (B.length - 1) 0 ≠ 0) :
    Calls Tryz.prog 58 #[sa,sb] w fun e w' => e = .returned (.int .i64 (cmpI (lval A) (lval B))) ∧ Below w.heap.size w w' := by
  obtain ⟨pa,ca,rfl⟩ := ha.shape
  obtain ⟨pb,cb,rfl⟩ := hb.shape
  have hla := ha.short
  have hlb := hb.short
  have wa := ha.limbs
  have wb := hb.limbs
  by_cases hne : A.length = B.length
  · obtain ⟨V,hV⟩ : ∃ V,cmpI (lval A) (lval B) = V := ⟨_,rfl⟩
    rw [hV]
    have HV := Lib.hid hV
    have Hne := Lib.hid hne
    have ka : A.length ≤ 4294967296 := hla
    rw [← hne]
    clear hV hne
    go_enter Tryz.func58,Tryz.ntmps58
    go_wp2_with fail
    go_loopw [5] (fun i wr => ∃ k : Nat,k ≤ A.length ∧ i = .int .i64 ((k : Int) - 1) ∧ (∀ j,k ≤ j → j < A.length → A.getD j 0 = B.getD j 0) ∧ Below w.heap.size w wr) (fun i _ => (intOf i + 1).toNat)
    case atStart => exact ⟨A.length,Nat.le_refl _,rfl,fun j h1 h2 => by omega,Below.refl _ _⟩
    case round =>
      obtain ⟨k,hk,rfl,heq,hW⟩ := hrel
      cases k with
      | zero =>
        have hv : V = 0 := by
          rw [← HV.out]
          have := lsame_val (l1 := A) (l2 := B) (len := A.length) (Nat.le_refl _) (by have := Hne.out; omega) (fun j hj => heq j (Nat.zero_le _) hj)
          rw [List.take_length,List.take_of_length_le (by have := Hne.out; omega)] at this
          exact cmpI_eq this
        subst hv
        clear heq
        go_wp2_with fail
        go_ret
        exact ⟨rfl,hW⟩
      | succ k =>
        obtain ⟨rb,rt,rc,rl,hs,hra,hr1,hr2,hr3⟩ := ha.row (by omega)
        simp only [Value.slice.injEq] at hs
        obtain ⟨rfl,_,rfl⟩ := hs
        obtain ⟨qb,qt,qc,ql,hs,hqa,hq1,hq2,hq3⟩ := hb.row (by have := Hne.out; omega)
        simp only [Value.slice.injEq] at hs
        obtain ⟨rfl,_,rfl⟩ := hs
        have hcx := Limbed.cell (hra.below hW hr3) hr1 hr2 k (by omega)
        have hcy := Limbed.cell (hqa.below hW hq3) hq1 hq2 k (by have := Hne.out; omega)
        have hv := fun h => lcmp_val (l1 := A) (l2 := B) (len := A.length) (j := k) (Nat.le_refl _) (by have := Hne.out; omega) wa wb (by omega) (fun i h1 h2 => heq i (by omega) h2) h
        rw [List.take_length,List.take_of_length_le (by have := Hne.out; omega)] at hv
        have hk1 : ((k : Int) + 1 - 1) = k := by omega
        obtain ⟨x,hx⟩ : ∃ x,A.getD k 0 = x := ⟨_,rfl⟩
        obtain ⟨y,hy⟩ : ∃ y,B.getD k 0 = y := ⟨_,rfl⟩
        rw [hx] at hcx hv
        rw [hy] at hcy hv
        have Heq := Lib.hid heq
        have Hx := Lib.hid hx
        have Hy := Lib.hid hy
        clear heq hx hy hq2 hr2
        by_cases hxy : x = y
        · have Hxy := Lib.hid hxy
          have hxy' : (x != y) = false := by simp [hxy]
          have Hs : Hid (∀ j,k ≤ j → j < A.length → A.getD j 0 = B.getD j 0) := Lib.hid (fun j h1 h2 => by
            by_cases e : j = k
            · subst e; rw [Hx.out,Hy.out]; exact Hxy.out
            · exact Heq.out j (by omega) h2)
          clear hv hxy
          go_wp2_with fail
          go_region
          all_goals
            go_wp2_with fail
            first | exact ⟨⟨k,by omega,by go_num,Hs.out,hW⟩,by simp [intOf]⟩ | exact ⟨⟨k,by omega,by go_num,Hs.out,hW.drew⟩,by simp [intOf]⟩
        · have Hv := HV.out.symm.trans (hv hxy)
          have hxy' : (x != y) = true := by simp [hxy]
          clear hv
          by_cases hlt : x < y
          · rw [cmpI_lt hlt] at Hv
            subst Hv
            go_wp2_with fail
            go_region
            all_goals
              go_wp2_with fail
              go_region
              all_goals
                go_wp2_with fail
                go_ret
                first | exact ⟨rfl,hW⟩ | exact ⟨rfl,hW.drew⟩ | exact ⟨rfl,hW.drew.drew⟩
          · rw [cmpI_gt (by omega)] at Hv
            subst Hv
            go_wp2_with fail
            go_region
            all_goals
              go_wp2_with fail
              go_region
              all_goals
                go_wp2_with fail
                go_ret
                first | exact ⟨rfl,hW⟩ | exact ⟨rfl,hW.drew⟩ | exact ⟨rfl,hW.drew.drew⟩
  · rw [cmp_lens wa wb zA zB hne]
    have hne' : ((A.length : Int) != B.length) = true := by simp; omega
    by_cases hlt : A.length < B.length
    · rw [if_pos hlt]
      go_enter Tryz.func58,Tryz.ntmps58
      go_wp2_with fail
      go_ret
      exact ⟨rfl,Below.refl _ _⟩
    · rw [if_neg hlt]
      go_enter Tryz.func58,Tryz.ntmps58
      go_wp2_with fail
      go_ret
      exact ⟨rfl,Below.refl _ _⟩
set_option maxRecDepth 100000 in
set_option maxHeartbeats 2000000 in
theorem natMul_any (sa sb : Value) (A B : List Int) (w : World) (ha : Limbed w sa A) (hb : Limbed w sb B) (hsa : A.length ≤ 1048576) (hsb : B.length ≤ 1048576) :
    Calls Tryz.prog 62 #[sa,sb] w (RetNum (lval A * lval B) w) := by
  obtain ⟨pa,ca,rfl⟩ := ha.shape
  obtain ⟨pb,cb,rfl⟩ := hb.shape
  have hla := ha.short
  have hlb := hb.short
  have wa := ha.limbs
  have wb := hb.limbs
  have hmk := make32 (A.length + B.length) ((A.length : Int) + B.length) (by omega) (by omega)
  go_enter Tryz.func62,Tryz.ntmps62
  go_wp2_with fail
  go_loopw [6] (fun i wr => ∃ (k : Nat) (lk : List Int),k ≤ A.length ∧ i = .int .i64 k ∧ TimesAt A B lk k ∧ Arr wr w.heap.size 135 .u32 lk ∧ Below w.heap.size w wr) (fun i _ => A.length - (intOf i).toNat)
  case atStart => exact ⟨0,_,Nat.zero_le _,rfl,⟨by simp,Limbs.replicate _,by rw [List.take_replicate,lval_replicate]; simp [lval]⟩,Arr.zeros _ _ _ _ _ rfl,by go_grown⟩
  case round =>
    obtain ⟨i,lz,hi,rfl,hat,haz,hB⟩ := hrel
    obtain ⟨wo,rfl⟩ : ∃ wo : World,wo = wr := ⟨_,rfl⟩
    by_cases hlt : i < A.length
    · obtain ⟨rb,rt,rc,rl,hs,hra,hr1,hr2,hr3⟩ := ha.row (by omega)
      simp only [Value.slice.injEq] at hs
      obtain ⟨rfl,_,rfl⟩ := hs
      have xa := wa.getD i
      have hcA := fun W (g : Below w.heap.size w W) => Limbed.cell (hra.below g hr3) hr1 hr2 i hlt
      obtain ⟨x,hx⟩ : ∃ x,A.getD i 0 = x := ⟨_,rfl⟩
      rw [hx] at hcA xa
      have Hx := Lib.hid hx
      have Hat := Lib.hid hat
      have Xa := Lib.hid xa
      clear hx hat xa hmk
      go_wp2_with fail
      go_loopw [7,8] (fun c j wr => ∃ (k : Nat) (cv : Int) (lk : List Int),k ≤ B.length ∧ j = .int .i64 k ∧ c = .int .u64 cv ∧ TimesIn lz lk B i k x cv ∧ Arr wr w.heap.size 135 .u32 lk ∧ Below w.heap.size w wr) (fun _ j _ => B.length - (intOf j).toNat)
      case atStart => exact ⟨0,0,lz,Nat.zero_le _,rfl,rfl,⟨rfl,Hat.out.2.1,⟨by decide,by decide⟩,fun _ _ => rfl,by simp [lval]⟩,haz,hB⟩
      case round =>
        obtain ⟨k,cv,lk,hk,rfl,rfl,hin,hak,hB2⟩ := hrel
        by_cases hlk : k < B.length
        · obtain ⟨qb,qt,qc,ql,hs,hqa,hq1,hq2,hq3⟩ := hb.row (by omega)
          simp only [Value.slice.injEq] at hs
          obtain ⟨rfl,_,rfl⟩ := hs
          have hcx := hcA _ hB2
          have hcy := Limbed.cell (hqa.below hB2 hq3) hq1 hq2 k hlk
          have hlen := hin.1
          have hl2 := Hat.out.1
          have hco := hak.cell (i + k) (by omega)
          have hfo := hak.free (i + k)
          rw [hin.2.2.2.1 (i + k) (Nat.le_refl _)] at hco
          have xb := wb.getD k
          have xz := Hat.out.2.1.getD (i + k)
          have hcv := hin.2.2.1
          have hxy := times_bd Xa.out xb
          have st := hin.step (by omega) Hat.out.2.1 wb Xa.out
          obtain ⟨y,hy⟩ : ∃ y,B.getD k 0 = y := ⟨_,rfl⟩
          obtain ⟨z,hz⟩ : ∃ z,lz.getD (i + k) 0 = z := ⟨_,rfl⟩
          rw [hy] at hcy xb hxy st
          rw [hz] at hco xz st
          obtain ⟨xa0,xa1⟩ := Xa.out
          obtain ⟨xb0,xb1⟩ := xb
          obtain ⟨xz0,xz1⟩ := xz
          obtain ⟨cv0,cv1⟩ := hcv
          obtain ⟨P,hP⟩ : ∃ P,x * y = P := ⟨_,rfl⟩
          rw [hP] at hxy st
          obtain ⟨p0,p1⟩ := hxy
          have St := Lib.hid st
          have Ew : Hid (IntKind.u64.wrap (IntKind.u64.wrap (cv + IntKind.u64.wrap z) + IntKind.u64.wrap (IntKind.u64.wrap x * IntKind.u64.wrap y)) = cv + z + P) := Lib.hid (by
            have e1 : IntKind.u64.wrap x = x := by rw [IntKind.wrap_u64]; omega
            have e2 : IntKind.u64.wrap y = y := by rw [IntKind.wrap_u64]; omega
            rw [e1,e2,hP]; simp only [IntKind.wrap_u64]; omega)
          have d0 : 0 ≤ cv + z + P := by omega
          have d1 : cv + z + P < 18446744073709551616 := by omega
          have hik : IntKind.i64.wrap ((i : Int) + k) = (i : Int) + k := by rw [IntKind.wrap_i64]; omega
          have hik0 : (0 : Int) ≤ (i : Int) + k := by omega
          have hik1 : (i : Int) + k < (A.length : Int) + B.length := by omega
          have hik2 : ((i : Int) + k).toNat = i + k := by omega
          have Dc : (wr.drew.cell? ⟨rb,i,none⟩ = some (.int .u32 x) ∧ wr.drew.cell? ⟨qb,k,none⟩ = some (.int .u32 y) ∧ wr.drew.cell? ⟨w.heap.size,i + k,none⟩ = some (.int .u32 z)) := ⟨hcx,hcy,hco⟩
          clear st hlen hl2 hin hy hz hP hq2 hr2 hcA
          go_wp2_with fail
          go_region_held3 (fun w' => w'.cell? ⟨rb,i,none⟩ = some (.int .u32 x) ∧ w'.cell? ⟨qb,k,none⟩ = some (.int .u32 y) ∧ w'.cell? ⟨w.heap.size,i + k,none⟩ = some (.int .u32 z)) (first | with_reducible exact ⟨hcx,hcy,hco⟩ | with_reducible exact Dc) (fail)
          all_goals
            rw [Ew.out]
            generalize cv + z + P = D at St d0 d1
            go_wp2_with fail
            first | exact ⟨⟨k + 1,_,_,by omega,by go_num,rfl,St.out,hak.set _ _,hB2.setCell (p := ⟨w.heap.size,i + k,none⟩) (Nat.le_refl _) _⟩,by simp [intOf]; omega⟩ | exact ⟨⟨k + 1,_,_,by omega,by go_num,rfl,St.out,hak.set _ _,(hB2.setCell (p := ⟨w.heap.size,i + k,none⟩) (Nat.le_refl _) _).drew⟩,by simp [intOf]; omega⟩
        · obtain rfl : k = B.length := by omega
          have hl2 := Hat.out.1
          have hlk2 := hin.1
          have st := Hat.out.step hlt (by rw [Hx.out]; exact hin)
          have hco := hak.cell (i + B.length) (by omega)
          have hfo := hak.free (i + B.length)
          generalize lk.getD (i + B.length) 0 = z at hco
          have hcv := hin.2.2.1
          obtain ⟨cv0,cv1⟩ := hcv
          have St := Lib.hid st
          clear st hin hl2 hlk2
          go_wp2_with fail
          exact ⟨⟨i + 1,_,by omega,by go_num,St.out,hak.set _ _,hB2.setCell (p := ⟨w.heap.size,i + B.length,none⟩) (Nat.le_refl _) _⟩,by simp [intOf]; omega⟩
    · obtain rfl : i = A.length := by omega
      have hlen := hat.1
      have hw2 := hat.2.1
      have hd := hat.2.2
      rw [List.take_length,← List.length_append] at hd
      rw [List.length_append] at hd
      have tr := ltrim_any w.heap.size 135 (A.length + B.length) (A.length + B.length) lz wo haz (Nat.le_refl _) (by omega) (by omega)
      have l1 := trimLen_le lz (A.length + B.length)
      have l2 := trimLen_last lz (A.length + B.length)
      have l3 := lval_trim lz (A.length + B.length) (by omega)
      generalize trimLen lz (A.length + B.length) = m at tr l1 l2 l3
      have H2 := Lib.hid l2
      have H3 := Lib.hid (l3.trans hd)
      have Hlen := Lib.hid hlen
      clear l2 l3 hd hat hmk hlen
      go_wp2_with (go_at_call 90; refine tr.mono ?_; rintro e W1 ⟨rfl,rfl⟩)
      go_ret
      have hn := isNum_arr haz (len := m) (cap := A.length + B.length) (by have := Hlen.out; omega) (by have := Hlen.out; omega) hw2 H2.out
      rw [H3.out] at hn
      exact ⟨_,rfl,hn,hB⟩
end Go.Proofs.YtlkblgpekbeljaaGreatDoor
