/- Contract of abaculuslaw1.two: bytes as numbers,the program's and the document's. -/
import Derived.Test.YtogildikglomkaaGreatDoorNatFrom
import Derived.Test.YtogildikglomkaaGreatDoorFrom
namespace Go.Proofs.YtogildikglomkaaGreatDoor
open Go.RowKit
set_option linter.unusedVariables false

/-- A slice of bytes that came in. -/
def BArg (w : World) (v : Value) : Prop := v = .slice none 0 0 ∨ (∃ a cap,v = .slice (some a) 0 cap ∧ cap ≤ 9223372036854775807) ∨
  ∃ b off len cap zs,v = .slice (some ⟨b,off,none⟩) len cap ∧ 0 < len ∧ len ≤ cap ∧ len ≤ zs.length ∧ len ≤ 9223372036854775807 ∧ cap ≤ 9223372036854775807 ∧ Bytes8 zs ∧ ∀ j,j < zs.length → w.cell? ⟨b,off + j,none⟩ = some (.int .u8 (zs.getD j 0))
theorem BArg.below {w w' : World} {v : Value} (h : BArg w v) (hb : Below w.heap.size w w') : BArg w' v := by
  rcases h with h | h | ⟨b,off,len,cap,zs,hv,h1,h2,h3,h4,h5,h6,hc⟩
  · exact .inl h
  · exact .inr (.inl h)
  · refine .inr (.inr ⟨b,off,len,cap,zs,hv,h1,h2,h3,h4,h5,h6,fun j hj => ?_⟩)
    rw [hb.cell (p := ⟨b,off + j,none⟩) (World.block_lt_of_cell? w ⟨b,off + j,none⟩ (hc j hj))]
    exact hc j hj
theorem few_arg (v : Value) (w : World) (h : BArg w v) : Calls Tryz.prog 27 #[v,.int .i64 48] w (RetFew w) := by
  rcases h with rfl | ⟨a,cap,rfl,hc⟩ | ⟨b,off,len,cap,zs,rfl,h1,h2,h3,h4,h5,h6,hc⟩
  · exact few_nil w
  · exact few_zero a cap hc w
  · exact few_any b off len cap zs h1 h2 h3 h4 h5 h6 w hc
/-- The document's number n. -/
def IsRef (w : World) (s : Value) (n : Int) : Prop := ∃ b t len cap l,s = .slice (some ⟨b,0,none⟩) len cap ∧ Arr w b t .u32 l ∧ len ≤ l.length ∧ len ≤ 12 ∧ l.length ≤ 12 ∧ Limbs l ∧ (len ≠ 0 → l.getD (len - 1) 0 ≠ 0) ∧ lval (l.take len) = n
theorem IsRef.below {w w' : World} {s : Value} {n : Int} (h : IsRef w s n) (hb : Below w.heap.size w w') : IsRef w' s n := by
  obtain ⟨b,t,len,cap,l,hv,ha,r⟩ := h
  exact ⟨b,t,len,cap,l,hv,ha.below hb ha.lt,r⟩
theorem IsRef.bd {w : World} {s : Value} {n : Int} (h : IsRef w s n) : 0 ≤ n ∧ n < 2 ^ 384 := by
  obtain ⟨b,t,len,cap,l,hv,ha,h1,h2,h3,hw,hz,rfl⟩ := h
  have hb := lval_bd (hw.take len)
  rw [List.length_take,Nat.min_eq_left h1] at hb
  have hm := lpw_mono h2
  rw [lpw_two 12] at hm
  exact ⟨hb.1,by omega⟩
theorem hand_ref (s : Value) (n : Int) (w : World) (h : IsRef w s n) : Calls Tryz.prog 61 #[s] w (RetNat n w) := by
  have hb := h.bd
  obtain ⟨b,t,len,cap,l,rfl,ha,h1,h2,h3,hw,hz,hv⟩ := h
  exact hand_nat n hb.1 hb.2 _ len cap w fun w' g => natBytes_of n b len cap t l w' (ha.below g ha.lt) h1 (by omega) hw hz hv
theorem natFrom_ref (g n cap : Nat) (l : List Int) (w : World) (ha : Arr w g 5 .u8 l) (hl : n ≤ l.length) (hm : n ≤ 48) (hby : Bytes8 l) :
    Calls Tryz.prog 26 #[.slice (some ⟨g,0,none⟩) n cap] w fun e w' => (∃ s N,e = .returned s ∧ IsRef w' s N) ∧ Below w.heap.size w w' := by
  refine (natFrom_any g 5 n cap l w ha hl hm hby).mono ?_
  rintro e w' ⟨⟨b,len,m,rfl,hb,hlen,hw,hle,hz⟩,hB⟩
  exact ⟨⟨_,_,rfl,b,101,len,_,m,rfl,hb,by omega,by omega,by omega,hw,hz,rfl⟩,hB⟩
/-- Two numbers,each the program's and the document's. -/
def RetFour (w : World) (e : Ending) (w' : World) : Prop := ∃ v1 v2 s1 s2 n m,e = .returned (.tuple #[v1,v2,s1,s2]) ∧ IsNat w' v1 n ∧ IsNat w' v2 m ∧ IsRef w' s1 n ∧ IsRef w' s2 m ∧ Below w.heap.size w w'
theorem IsRef.two {w : World} {s : Value} {n : Int} {c : Nat} {x y : Value} (h : IsRef w s n) (hc : Var w c x y) (x' y' : Value) : IsRef ((w.setCell ⟨c,0,none⟩ x').setCell ⟨c,1,none⟩ y') s n := by
  obtain ⟨b,t,len,cap,l,hv,ha,r⟩ := h
  exact ⟨b,t,len,cap,l,hv,(ha.other (ha.neVar hc) _).other (ha.neVar hc) _,r⟩
theorem bodyPost_four {fn : Func} {p q s t : Tmp} (h : fn.results = #[.cell p 25,.cell q 25,.tmp s,.tmp t]) {w w' : World} {a : Act} {x y u v s1 s2 : Value} {Q R : Int} {c d : Nat} (hd : a.defers = [])
    (hp : a.tmps.getD p undef = .pointer (some ⟨c,0,none⟩)) (hq : a.tmps.getD q undef = .pointer (some ⟨d,0,none⟩)) (hs : a.tmps.getD s undef = s1) (ht : a.tmps.getD t undef = s2) (hc : Var w' c x y) (hd' : Var w' d u v)
    (h1 : IsNat w' (.agg #[x,y]) Q) (h2 : IsNat w' (.agg #[u,v]) R) (h3 : IsRef w' s1 Q) (h4 : IsRef w' s2 R) (hB : Below w.heap.size w w') : bodyPost Tryz.prog fn (RetFour w) .ret a w' := by
  refine bodyPost_ret (v := .tuple #[.agg #[x,y],.agg #[u,v],s1,s2]) ?_ hd ⟨_,_,_,_,_,_,rfl,h1,h2,h3,h4,hB⟩
  have hp' : a.tmps[p]?.getD undef = .pointer (some ⟨c,0,none⟩) := by simpa using hp
  have hq' : a.tmps[q]?.getD undef = .pointer (some ⟨d,0,none⟩) := by simpa using hq
  have hs' : a.tmps[s]?.getD undef = s1 := by simpa using hs
  have ht' : a.tmps[t]?.getD undef = s2 := by simpa using ht
  simp [results,h,hp',hq',hs',ht',asAddr,run_loadVar_nat hc,run_loadVar_nat hd']
end Go.Proofs.YtogildikglomkaaGreatDoor
