/- Contract of (Nat).words of any number,beside another room. -/
import Derived.Test.YtogildikglomkaaGreatDoorMulAdd
import Derived.Test.YtogildikglomkaaGreatDoorKnown
namespace Go.Proofs.YtogildikglomkaaGreatDoor
open Go.RowKit
set_option linter.unusedVariables false

theorem Arr.ne_len {w : World} {b c : Nat} {t s : TypeId} {k : IntKind} {l m : List Int} (h : Arr w b t k l) (g : Arr w c s k m) (hl : l.length ≠ m.length) : b ≠ c := by
  rintro rfl
  have e := h.symm.trans g
  simp only [Option.some.injEq,Obj.cells.injEq] at e
  have := congrArg Array.size e.1
  simp at this
  exact hl this
/-- A number stays what it is while a room of one word is written. -/
theorem IsNat.room {w w' : World} {v : Value} {n : Int} {r : Nat} {t : TypeId} {x : Int} (h : IsNat w v n) (hr : Arr w r t .u64 [x]) (hg : w.grownBy w' (some r)) : IsNat w' v n := by
  rcases h with h | ⟨b,s,len,cap,l,hv,ha,h2,h3,h4,rest⟩
  · exact .inl h
  · refine .inr ⟨b,s,len,cap,l,hv,ha.grown hg ?_,h2,h3,h4,rest⟩
    intro e
    exact ha.ne_len hr (by simp; omega) (Option.some.inj e)
/-- What a number's words are: a slice that is worth n. -/
def WordsOf (w : World) (q : Nat) (n : Int) (K : Nat) (v : Value) : Prop := ∃ b t len cap l,v = .slice (some ⟨b,0,none⟩) len cap ∧ Arr w b t .u64 l ∧ len ≤ l.length ∧ len ≤ K ∧ Words l ∧ val (l.take len) = n ∧ b ≠ q
theorem WordsOf.grown {w w' : World} {q : Nat} {n : Int} {K : Nat} {v : Value} (h : WordsOf w q n K v) (hg : w.grownBy w' (some q)) : WordsOf w' q n K v := by
  obtain ⟨b,t,len,cap,l,hv,ha,h1,h2,h3,h4,h5⟩ := h
  exact ⟨b,t,len,cap,l,hv,ha.grown hg (fun e => h5 (Option.some.inj e)),h1,h2,h3,h4,h5⟩

theorem words_any (K : Nat) (hK : 1 ≤ K) (v : Value) (n : Int) (rb : Nat) (t : TypeId) (r0 : Int) (q : Nat) (tq : TypeId) (q0 : Int) (w : World) (hv : IsNat w v n) (hn : n < pw K) (hr : Arr w rb t .u64 [r0]) (hq : Arr w q tq .u64 [q0]) (hne : rb ≠ q) :
    Calls Tryz.prog 77 #[v,.pointer (some ⟨rb,0,none⟩)] w fun e w' => (∃ x,e = .returned x ∧ WordsOf w' q n K x) ∧ (∃ r1,Arr w' rb t .u64 [r1]) ∧ w.grownBy w' (some rb) := by
  rcases hv with ⟨wn,rfl⟩ | ⟨b,s,len,cap,l,rfl,ha,h2,h3,h4,h5,hw,hz,rfl⟩
  · refine (words_word n wn rb t r0 w hr).mono ?_
    rintro e w' ⟨rfl,hx,hg⟩
    have htl := trimLen_le [n] 1
    exact ⟨⟨_,rfl,rb,t,_,_,[n],rfl,hx,by simpa using htl,by omega,Words.cons wn Words.nil,by rw [val_trim [n] 1 (by simp)]; simp [val],hne⟩,⟨_,hx⟩,hg⟩
  · refine (words_many b len cap _ w).mono ?_
    rintro e w' ⟨rfl,hb⟩
    exact ⟨⟨_,rfl,b,s,len,cap,l,rfl,ha.below hb ha.lt,by omega,len_le hw (by omega) (by omega) hz hn,hw,rfl,ha.ne_len hq (by simp; omega)⟩,⟨_,hr.below hb hr.lt⟩,grownBy_below hb (Nat.le_refl _) _⟩
end Go.Proofs.YtogildikglomkaaGreatDoor
