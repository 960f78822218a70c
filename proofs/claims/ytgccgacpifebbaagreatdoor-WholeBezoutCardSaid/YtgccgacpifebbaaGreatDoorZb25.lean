/- RGK -/
import Derived.WalkKit
import Derived.OrdersIn
import Derived.Below
import Derived.Test.YtgccgacpifebbaaGreatDoorZb08
import Derived.Test.YtgccgacpifebbaaGreatDoorZb24
namespace Go.Proofs.YtgccgacpifebbaaGreatDoor
open Go.RowKit
set_option linter.unusedVariables false
/-- Block p alone has turned: it holds as many cells of the same type, a slice among them. -/
def Touch (p : Nat) (w w' : World) : Prop :=
  (w'.os = w.os ∧ w'.tape = w.tape ∧ w'.output = w.output ∧ w'.heap.size = w.heap.size ∧ ∀ k, k ≠ p → w'.heap[k]? = w.heap[k]?) ∧
  ∃ (cs cs' : Array Value) (t : TypeId), w.heap[p]? = some (.cells cs t (0,0)) ∧ w'.heap[p]? = some (.cells cs' t (0,0)) ∧ cs'.size = cs.size ∧ (∃ (i : Nat) (q : Option Addr) (l c : Nat), cs[i]? = some (Value.slice q l c)) ∧ ∃ (i : Nat) (q : Option Addr) (l c : Nat), cs'[i]? = some (Value.slice q l c)
def Ptr (p : Nat) : Value := .pointer (some ⟨p,0,none⟩)
/-- A fact of some values that lasts. -/
structure Spec where
  φ : List Value → World → Prop
  own : Bool
  frail : Bool := false
  below : ∀ vs w w', φ vs w → Below w.heap.size w w' → φ vs w'
  touch : frail = false → ∀ vs w w' p, φ vs w → Touch p w w' → (own = true → ∀ x ∈ vs, x ≠ Ptr p) → φ vs w'
/-- What is told of one operation: its slot; the operations (with their slots) whose values and facts it wants; of which values its own fact speaks; the value that points at what it writes; whose facts end with it. -/
structure Row where
  dst : Option Nat
  need : List (Nat × Option Nat) := []
  vs : List Nat
  own : Bool := false
  tgt : Option Nat := none
  kill : List Nat := []
  ord : List Nat := []
  old : Bool := false
  base : Bool := false
  frail : Bool := false
def fill (env : Nat → Value) : List (Nat × Option Nat) → Act → Act
  | [], a => a
  | (i, d) :: l, a => fill env l (a.put d (env i))
def Spec.one : Spec := { φ := fun _ _ => True, own := false, below := fun _ _ _ _ _ => trivial, touch := fun _ _ _ _ _ _ _ _ => trivial }
def rowAt (D : List Row) (i : Nat) : Row := D.getD i { dst := none, vs := [] }
def specAt (T : List Spec) (i : Nat) : Spec := T.getD i Spec.one
def FactAt (D : List Row) (T : List Spec) (env : Nat → Value) (w : World) (k : Nat) : Prop := (specAt T k).φ ((rowAt D k).vs.map env) w
def AllNeed (D : List Row) (T : List Spec) (env : Nat → Value) (w : World) : List Nat → Prop
  | [] => True
  | k :: l => FactAt D T env w k ∧ AllNeed D T env w l
theorem AllNeed.of {D : List Row} {T : List Spec} {env : Nat → Value} {w : World} : ∀ {l : List Nat}, (∀ k ∈ l, FactAt D T env w k) → AllNeed D T env w l
  | [], _ => trivial
  | k :: l, h => ⟨h k (by simp), AllNeed.of fun j hj => h j (by simp [hj])⟩
def upd (env : Nat → Value) (i : Nat) (v : Value) (k : Nat) : Value := bif k == i then v else env k
theorem upd_same (env : Nat → Value) (i : Nat) (v : Value) : upd env i v i = v := by simp [upd]
theorem upd_other (env : Nat → Value) {i k : Nat} (v : Value) (h : k ≠ i) : upd env i v k = env k := by unfold upd; rw [beq_false_of_ne h]; rfl
theorem map_upd {env : Nat → Value} {i : Nat} (v : Value) {l : List Nat} (h : i ∉ l) : l.map (upd env i v) = l.map env :=
  List.map_congr_left fun k hk => upd_other env v (fun e => h (e ▸ hk))
theorem fill_size (env : Nat → Value) : ∀ (l : List (Nat × Option Nat)) (a : Act), (fill env l a).tmps.size = a.tmps.size
  | [], _ => rfl
  | (i, d) :: l, a => by rw [fill,fill_size]; cases d <;> simp [Act.put]
theorem fill_defers (env : Nat → Value) : ∀ (l : List (Nat × Option Nat)) (a : Act), (fill env l a).defers = a.defers
  | [], _ => rfl
  | (i, d) :: l, a => by rw [fill,fill_defers]; cases d <;> rfl
theorem fill_miss (env : Nat → Value) (t : Nat) : ∀ (l : List (Nat × Option Nat)) (a : Act), (∀ p ∈ l, p.2 ≠ some t) → (fill env l a).tmps[t]? = a.tmps[t]?
  | [], _, _ => rfl
  | (i, d) :: l, a, h => by
    rw [fill,fill_miss env t l _ fun p hp => h p (by simp [hp])]
    cases d with
    | none => rfl
    | some d =>
      have hne : d ≠ t := fun e => h (i, some d) (by simp) (by rw [e])
      simp [Act.put,Array.getElem?_setIfInBounds_ne hne]
theorem fill_hit (env : Nat → Value) (t i : Nat) : ∀ (l : List (Nat × Option Nat)) (a : Act), t < a.tmps.size → (∀ p ∈ l, p.2 = some t → p.1 = i) → (i, some t) ∈ l → (fill env l a).tmps[t]? = some (env i)
  | [], _, _, _, h => by cases h
  | (j, d) :: l, a, ht, hu, h => by
    rw [fill]
    have hs : t < (a.put d (env j)).tmps.size := by cases d <;> simp [Act.put,ht]
    by_cases hl : (i, some t) ∈ l
    · exact fill_hit env t i l _ hs (fun p hp => hu p (by simp [hp])) hl
    · rcases List.mem_cons.1 h with e | e
      · cases e
        rw [fill_miss]
        · simp [Act.put,ht]
        · intro p hp e
          have := hu p (by simp [hp]) e
          exact hl (by rw [← this,← e]; exact hp)
      · exact absurd e hl
/-- What turned since W0: of what was there only what E tells. -/
def Base (W0 : World) (E : Nat → Prop) (w : World) : Prop := w.os = W0.os ∧ w.tape = W0.tape ∧ w.output = W0.output ∧ W0.heap.size ≤ w.heap.size ∧ ∀ k, k < W0.heap.size → ¬ E k → w.heap[k]? = W0.heap[k]?
theorem Base.refl (W0 : World) (E : Nat → Prop) : Base W0 E W0 := ⟨rfl,rfl,rfl,Nat.le_refl _,fun _ _ _ => rfl⟩
theorem Base.drew {W0 w : World} {E : Nat → Prop} (h : Base W0 E w) : Base W0 E w.drew := h
theorem Base.bx {W0 w : World} (h : Base W0 (fun _ => False) w) : Below W0.heap.size W0 w := ⟨h.1,h.2.1,h.2.2.1,h.2.2.2.1,fun k hk => h.2.2.2.2 k hk id⟩
theorem Base.below {W0 w w' : World} {E : Nat → Prop} (h : Base W0 E w) (b : Below w.heap.size w w') : Base W0 E w' :=
  ⟨b.os.trans h.1,b.tape.trans h.2.1,b.output.trans h.2.2.1,Nat.le_trans h.2.2.2.1 b.size,fun k hk he => (b.block k (Nat.lt_of_lt_of_le hk h.2.2.2.1)).trans (h.2.2.2.2 k hk he)⟩
theorem Base.touch {W0 w w' : World} {E : Nat → Prop} {p : Nat} (h : Base W0 E w) (t : Touch p w w') (hp : W0.heap.size ≤ p ∨ E p) : Base W0 E w' :=
  ⟨t.1.1.trans h.1,t.1.2.1.trans h.2.1,t.1.2.2.1.trans h.2.2.1,Nat.le_trans h.2.2.2.1 (Nat.le_of_eq t.1.2.2.2.1.symm),fun k hk he => (t.1.2.2.2.2 k (by rintro rfl; rcases hp with hp | hp; omega; exact he hp)).trans (h.2.2.2.2 k hk he)⟩
/-- How an operation may turn the world: 'old': a block that was there, of which E tells; else a variable of the region's own, or nothing that was there. -/
def Moves (W0 : World) (E : Nat → Prop) : Bool → Option Value → World → World → Prop
  | true, _, w, w' => ∃ p, E p ∧ Touch p w w'
  | false, none, w, w' => Below w.heap.size w w'
  | false, some x, w, w' => ∃ p, x = Ptr p ∧ W0.heap.size ≤ p ∧ Touch p w w'
theorem Base.moves {W0 w w' : World} {E : Nat → Prop} {b : Bool} {x : Option Value} (h : Base W0 E w) (m : Moves W0 E b x w w') : Base W0 E w' := by
  cases b with
  | true => obtain ⟨p,hp,t⟩ := m; exact h.touch t (.inr hp)
  | false =>
    cases x with
    | none => exact h.below m
    | some x => obtain ⟨p,_,hp,t⟩ := m; exact h.touch t (.inl hp)
theorem Base.moves0 {W0 w w' : World} {E : Nat → Prop} {x : Option Value} (h : Base W0 (fun _ => False) w) (m : Moves W0 E false x w w') : Base W0 (fun _ => False) w' := by
  cases x with
  | none => exact h.below m
  | some x => obtain ⟨p,_,hp,t⟩ := m; exact h.touch t (.inl hp)
theorem Moves.size {W0 w w' : World} {E : Nat → Prop} {b : Bool} {x : Option Value} (m : Moves W0 E b x w w') : w.heap.size ≤ w'.heap.size := by
  cases b with
  | true => obtain ⟨p,hp,t⟩ := m; exact Nat.le_of_eq t.1.2.2.2.1.symm
  | false =>
    cases x with
    | none => exact Below.size m
    | some x => obtain ⟨p,_,hp,t⟩ := m; exact Nat.le_of_eq t.1.2.2.2.1.symm
section
variable {F : Fence} {n : Nat} {P : Program} {ops : Array Oper} {Q : Exit → Act → World → Prop} {md : Region.Mode}
/-- Operation o, run at the frame a, ends in no panic and leaves a value and a world of which C tells. -/
def Runs (F : Fence) (n : Nat) (P : Program) (ops : Array Oper) (o : Oper) (a : Act) (w : World) (C : Value → World → Prop) : Prop :=
  ∀ K : Act → World → Prop, (∀ v w', C v w' → K (a.put o.dst v) w') → if Region.wanted o (yielded ops a.tmps) = true then o.wpIn F n P a w K (fun _ _ _ => False) else (∀ f, o.about P w a.eval = some f → F.fn f) ∧ K (a.put o.dst undef) w
theorem put_same {a c : Act} {d : Option Tmp} {v v' : Value} (hs : a.tmps.size = c.tmps.size) (h : c.put d v = c.put d v') : a.put d v = a.put d v' := by
  cases d with
  | none => rfl
  | some d =>
    simp only [Act.put,Act.mk.injEq,and_true] at h ⊢
    by_cases hd : d < c.tmps.size
    · have := congrArg (fun x => x[d]?) h
      simp [hd] at this
      rw [this]
    · have e : ∀ x : Value, a.tmps.setIfInBounds d x = a.tmps := fun x => Array.setIfInBounds_eq_of_size_le (hs ▸ (Nat.le_of_not_lt hd))
      rw [e,e]
/-- The same at another frame that agrees where o looks. -/
theorem Runs.wpOp {i : Nat} {o : Oper} {a c : Act} {w : World} {C : Value → World → Prop} (hro : F.round = none) (ho : ops[i]? = some o) (hsel : ∀ cs b, o.op ≠ .select cs b)
    (hs : a.tmps.size = c.tmps.size) (hl : ∀ t ∈ o.looksAt ops, a.tmps[t]? = c.tmps[t]?) (h : Runs F n P ops o c w C) :
    wpOpIn F n P ops Q i (fun a' w' => ∃ v, a' = a.put o.dst v ∧ C v w') a w := by
  have hx : ∀ x ∈ o.op.operands, a.eval x = c.eval x := fun x hx => by
    cases x with
    | tmp t =>
      have := hl t (List.mem_append_left _ (List.mem_filterMap.2 ⟨.tmp t,by simpa using hx,rfl⟩))
      simp only [Act.eval,Array.getD_eq_getD_getElem?,this]
    | _ => rfl
  have e1 : execOp a.eval o = execOp c.eval o := execOp_congr o hsel hx
  have e2 : ∀ w, o.about P w a.eval = o.about P w c.eval := fun w => about_congr o w hx
  have e3 : Region.wanted o (yielded ops a.tmps) = Region.wanted o (yielded ops c.tmps) := by
    unfold Region.wanted
    cases hg : o.guard with
    | none => rfl
    | some gw =>
      obtain ⟨g,want⟩ := gw
      have hy : yielded ops a.tmps g = yielded ops c.tmps g := by
        unfold yielded
        cases ht : (ops[g]?).bind (·.dst) with
        | none => rfl
        | some t =>
          have := hl t (by simp [Oper.looksAt,hg,ht])
          simp only [Option.bind_some,this]
      simp only [hy]
  have hk := h (fun a' w' => ∃ v, a' = c.put o.dst v ∧ C v w') (fun v w' hc => ⟨v,rfl,hc⟩)
  have back : ∀ {v w'}, (∃ v', c.put o.dst v = c.put o.dst v' ∧ C v' w') → ∃ v', a.put o.dst v = a.put o.dst v' ∧ C v' w' := fun ⟨v',e,hc⟩ => ⟨v',put_same hs e,hc⟩
  unfold wpOpIn
  simp only [ho]
  rw [e3]
  split
  · rename_i hw
    simp only [hw,if_true] at hk
    unfold Oper.wpIn at *
    refine ⟨fun f hf => hk.1 f (by rw [← e2]; exact hf),?_⟩
    have hk := hk.2
    rw [hro,Oper.semAt_none] at hk ⊢
    rw [e1]
    generalize (execOp c.eval o).run P w = r at *
    cases r with
    | ok x w' =>
      cases x <;> simp only [Oper.uponIn] at hk ⊢
      case value u => exact back hk
      case skip => exact back hk
      case defer d =>
        obtain ⟨v,e,_⟩ := hk
        exfalso
        have := congrArg (fun a => a.defers.length) e
        cases hd : o.dst <;> simp [hd,Act.put] at this
      case enter f args =>
        refine ⟨hk.1,CallsIn.mono hk.2 fun e w'' he => ?_⟩
        cases e with
        | returned u => exact back he
        | panicked c => exact he.elim
        | outgrown => exact he.elim fun _ h => h.elim fun _ h => h.elim
      case row row args => exact ⟨hk.1,RowsIn.mono hk.2 fun u w'' he => back he⟩
      case round l f tmps assign body =>
        refine ⟨hk.1,RoundIn.mono hk.2 fun e w'' he => ?_⟩
        cases e with
        | returned u => exact back he
        | panicked c => exact he.elim
        | outgrown => exact he.elim fun _ h => h.elim fun _ h => h.elim
    | halt x w' => cases x <;> simp only [Oper.uponIn] at hk
  · rename_i hw
    simp only [hw] at hk
    exact ⟨fun f hf => hk.1 f (by rw [← e2]; exact hf),back hk.2⟩
def afters (md : Region.Mode) (o : Oper) : List Nat := (o.after.toList.filter (Region.binds md ·)).map (·.on)
def slotOf (D : List Row) (i : Nat) : Option Nat := (rowAt D i).dst
def needs (D : List Row) (i : Nat) : List Nat := (rowAt D i).need.map (·.1) ++ (rowAt D i).ord
def isOld (D : List Row) (i : Nat) : Bool := (rowAt D i).old
def okRow (md : Region.Mode) (ops : Array Oper) (D : List Row) (vars : List Nat) (i : Nat) (o : Oper) : Bool :=
  let r := rowAt D i
  let all := List.range ops.size
  (o.dst == r.dst) && (match o.op with | .select _ _ => false | _ => true) &&
  all.all (fun j => j == i || r.dst == none || slotOf D j != r.dst) &&
  (afters md o).all (fun e => decide (e < i)) &&
  r.need.all (fun p => p.2 == slotOf D p.1) && (needs D i).all (fun d => (afters md o).contains d || (afters md o).any fun e => (needs D e).contains d) &&
  (!r.base || all.all fun j => !isOld D j || j == i || (needs D j).contains i) &&
  (o.looksAt ops).all (fun t => r.need.any (·.2 == some t) || all.all fun j => slotOf D j != some t) &&
  r.vs.all (fun k => k == i || (needs D i).contains k) &&
  (r.need.map (·.1)).all (fun d => all.all fun j => !(rowAt D j).kill.contains d || j == i || (needs D j).contains i) &&
  !r.kill.contains i &&
  (!(r.old || r.tgt.isSome) || all.all fun k => k == i || !(rowAt D k).frail || r.kill.contains k || (needs D k).contains i) &&
  (!r.old || all.all fun k => k == i || !(rowAt D k).own || r.kill.contains k || (needs D k).contains i || (rowAt D k).vs.all fun v => vars.contains v) &&
  (match r.tgt with
   | none => true
   | some u => (needs D i).contains u && all.all fun k => k == i || !(rowAt D k).own || r.kill.contains k || (needs D k).contains i || (vars.contains u && (rowAt D k).vs.all fun v => vars.contains v && v != u))
def okPlan (md : Region.Mode) (ops : Array Oper) (D : List Row) (vars : List Nat) : Bool :=
  (List.range ops.size).all fun i => match ops[i]? with | none => true | some o => okRow md ops D vars i o
structure OkRow (md : Region.Mode) (ops : Array Oper) (D : List Row) (vars : List Nat) (i : Nat) (o : Oper) : Prop where
  dst : o.dst = slotOf D i
  sel : ∀ cs b, o.op ≠ .select cs b
  lone : ∀ j, j < ops.size → j ≠ i → ∀ t, slotOf D i = some t → slotOf D j ≠ some t
  back : ∀ e ∈ afters md o, e < i
  slot : ∀ p ∈ (rowAt D i).need, p.2 = slotOf D p.1
  near : ∀ d ∈ needs D i, d ∈ afters md o ∨ ∃ e ∈ afters md o, d ∈ needs D e
  base : (rowAt D i).base = true → ∀ j, j < ops.size → isOld D j = true → j ≠ i → i ∈ needs D j
  look : ∀ t ∈ o.looksAt ops, (∃ d, (d, some t) ∈ (rowAt D i).need) ∨ ∀ j, j < ops.size → slotOf D j ≠ some t
  vs : ∀ k ∈ (rowAt D i).vs, k = i ∨ k ∈ needs D i
  fresh : ∀ d ∈ (rowAt D i).need.map (·.1), ∀ j, j < ops.size → d ∈ (rowAt D j).kill → j = i ∨ i ∈ needs D j
  live : i ∉ (rowAt D i).kill
  frail : (rowAt D i).old = true ∨ (rowAt D i).tgt ≠ none → ∀ k, k < ops.size → k ≠ i → (rowAt D k).frail = true → k ∉ (rowAt D i).kill → i ∉ needs D k → False
  told : (rowAt D i).old = true → ∀ k, k < ops.size → k ≠ i → (rowAt D k).own = true → k ∉ (rowAt D i).kill → i ∉ needs D k → ∀ v ∈ (rowAt D k).vs, v ∈ vars
  tgt : ∀ u, (rowAt D i).tgt = some u → u ∈ needs D i ∧ ∀ k, k < ops.size → k ≠ i → (rowAt D k).own = true → k ∉ (rowAt D i).kill → i ∉ needs D k → u ∈ vars ∧ ∀ v ∈ (rowAt D k).vs, v ∈ vars ∧ v ≠ u
theorem OkRow.of {D : List Row} {vars : List Nat} {i : Nat} {o : Oper} (h : okRow md ops D vars i o = true) : OkRow md ops D vars i o := by
  simp only [okRow,Bool.and_eq_true] at h
  obtain ⟨⟨⟨⟨⟨⟨⟨⟨⟨⟨⟨⟨⟨h1,h2⟩,h3⟩,h4⟩,h5⟩,hn⟩,hb⟩,h6⟩,h7⟩,h8⟩,h9⟩,hf⟩,h10⟩,h11⟩ := h
  simp only [List.all_eq_true,List.mem_range,Bool.or_eq_true,beq_iff_eq,bne_iff_ne,decide_eq_true_eq,List.any_eq_true,Bool.not_eq_true',List.contains_eq_mem,decide_eq_false_iff_not] at h1 h3 h4 h5 hn hb h6 h7 h8 h9 hf h10
  refine ⟨h1,?_,?_,h4,h5,hn,?_,?_,h7,?_,h9,?_,?_,?_⟩
  · intro cs b e; rw [e] at h2; cases h2
  · intro j hj hji t ht e
    rcases h3 j hj with (h | h) | h
    · exact hji h
    · rw [show slotOf D i = none from h] at ht; cases ht
    · exact h (e.trans ht.symm)
  · intro hbase j hj ho hji
    rcases hb with hb | hb
    · rw [hbase] at hb; cases hb
    · rcases hb j hj with (h | h) | h
      · rw [ho] at h; cases h
      · exact absurd h hji
      · exact h
  · intro t ht
    rcases h6 t ht with ⟨p,hp,e⟩ | h
    · exact .inl ⟨p.1,by rw [← e]; exact hp⟩
    · exact .inr h
  · intro d hd j hj hk
    rcases h8 d hd j hj with (h | h) | h
    · exact absurd hk h
    · exact .inl h
    · exact .inr h
  · intro ht k hk hki ho hkl hn
    rcases hf with h | h
    · rcases ht with ht | ht <;> simp [ht] at h
    · rcases h k hk with ((h | h) | h) | h
      · exact hki h
      · rw [ho] at h; cases h
      · exact hkl h
      · exact hn h
  · intro hold k hk hki ho hkl hn v hv
    rcases h10 with h | h
    · rw [hold] at h; cases h
    · rcases h k hk with (((h | h) | h) | h) | h
      · exact absurd h hki
      · rw [ho] at h; cases h
      · exact absurd h hkl
      · exact absurd h hn
      · exact h v hv
  · intro u hu
    rw [hu] at h11
    simp only [List.all_eq_true,List.mem_range,Bool.or_eq_true,beq_iff_eq,bne_iff_ne,Bool.and_eq_true,Bool.not_eq_true',List.contains_eq_mem,decide_eq_true_eq] at h11
    refine ⟨h11.1,fun k hk hki ho hkl hn => ?_⟩
    rcases h11.2 k hk with (((h | h) | h) | h) | h
    · exact absurd h hki
    · rw [ho] at h; cases h
    · exact absurd h hkl
    · exact absurd h hn
    · exact h
theorem okPlan_row {D : List Row} {vars : List Nat} (h : okPlan md ops D vars = true) {i : Nat} {o : Oper} (ho : ops[i]? = some o) : OkRow md ops D vars i o := by
  have hi : i < ops.size := (Array.getElem?_eq_some_iff.1 ho).1
  have := List.all_eq_true.1 h i (List.mem_range.2 hi)
  rw [ho] at this
  exact .of this
def isOn (l : Array Bool) (k : Nat) : Prop := l.getD k false = true
theorem isOn_set {l : Array Bool} {i k : Nat} (h : isOn (l.setIfInBounds i true) k) : k = i ∨ isOn l k := by
  by_cases hk : k = i
  · exact .inl hk
  · right; unfold isOn at *; rwa [getD_set_ne false (fun e => hk e.symm)] at h
theorem isOn_lt {l : Array Bool} {k : Nat} (h : isOn l k) : k < l.size := by
  unfold isOn at h
  rcases Nat.lt_or_ge k l.size with h' | h'
  · exact h'
  · rw [Array.getD_eq_getD_getElem?,Array.getElem?_eq_none h'] at h; cases h
/-- The state of a run: which operations are through, and what is known of their values. -/
structure RgStat (ops : Array Oper) (D : List Row) (T : List Spec) (vars : List Nat) (W0 : World) (E : Nat → Prop) (a0 : Act) (l : Array Bool) (env : Nat → Value) (a : Act) (w : World) : Prop where
  size : l.size = ops.size
  tsize : a.tmps.size = a0.tmps.size
  defers : a.defers = a0.defers
  hit : ∀ i, isOn l i → ∀ t, slotOf D i = some t → t < a0.tmps.size → a.tmps[t]? = some (env i)
  miss : ∀ t, (∀ i, isOn l i → slotOf D i ≠ some t) → a.tmps[t]? = a0.tmps[t]?
  down : ∀ i, isOn l i → ∀ d ∈ needs D i, isOn l d
  base : Base W0 E w
  base0 : (∀ j, isOn l j → isOld D j = false) → Base W0 (fun _ => False) w
  facts : ∀ k, isOn l k → (∀ j, isOn l j → k ∉ (rowAt D j).kill) → FactAt D T env w k
  apart : ∀ u ∈ vars, ∀ v ∈ vars, u ≠ v → isOn l u → isOn l v → env u ≠ env v
  vlt : ∀ v ∈ vars, isOn l v → ∃ p, W0.heap.size ≤ p ∧ p < w.heap.size ∧ env v = Ptr p
/-- Each operation once: what it wants stands in 'need'. -/
def AllRuns (F : Fence) (n : Nat) (P : Program) (ops : Array Oper) (D : List Row) (T : List Spec) (vars : List Nat) (W0 : World) (E : Nat → Prop) (a0 : Act) (is : List Nat) : Prop :=
  ∀ i ∈ is, ∀ o, ops[i]? = some o → ∀ env w, Base W0 (bif (rowAt D i).base then (fun _ => False) else E) w → AllNeed D T env w ((rowAt D i).need.map (·.1)) →
    Runs F n P ops o (fill env (rowAt D i).need a0) w fun v w' => Moves W0 E (rowAt D i).old ((rowAt D i).tgt.map env) w w' ∧ (specAt T i).φ ((rowAt D i).vs.map (upd env i v)) w' ∧ (vars.contains i = true → v = Ptr w.heap.size ∧ w.heap.size < w'.heap.size)
theorem RgStat.step {D : List Row} {T : List Spec} {vars : List Nat} {W0 : World} {E : Nat → Prop} {a0 : Act} {l : Array Bool} {env : Nat → Value} {a : Act} {w w' : World} {i : Nat} {o : Oper} {v : Value}
    (h : RgStat ops D T vars W0 E a0 l env a w) (ho : ops[i]? = some o) (hr : OkRow md ops D vars i o) (hall : ∀ j o, ops[j]? = some o → OkRow md ops D vars j o) (hi : ¬ isOn l i) (hd : ∀ d ∈ needs D i, isOn l d)
    (hown : ∀ k, (specAt T k).own = (rowAt D k).own ∧ (specAt T k).frail = (rowAt D k).frail)
    (hE : ∀ p, E p → p < W0.heap.size) (hm : Moves W0 E (rowAt D i).old ((rowAt D i).tgt.map env) w w') (hf : (specAt T i).φ ((rowAt D i).vs.map (upd env i v)) w') (hx : vars.contains i = true → v = Ptr w.heap.size ∧ w.heap.size < w'.heap.size) :
    RgStat ops D T vars W0 E a0 (l.setIfInBounds i true) (upd env i v) (a.put o.dst v) w' := by
  have hil : i < ops.size := (Array.getElem?_eq_some_iff.1 ho).1
  have row : ∀ {j}, isOn l j → ∃ o, ops[j]? = some o ∧ OkRow md ops D vars j o := fun {j} hj => by
    have : j < ops.size := h.size ▸ isOn_lt hj
    exact ⟨ops[j],Array.getElem?_eq_getElem this,hall j _ (Array.getElem?_eq_getElem this)⟩
  have ne : ∀ {j}, isOn l j → j ≠ i := fun hj e => hi (e ▸ hj)
  have same : ∀ {k}, isOn l k → (rowAt D k).vs.map (upd env i v) = (rowAt D k).vs.map env := fun {k} hk => map_upd v fun hik => by
    obtain ⟨o',ho',hr'⟩ := row hk
    rcases hr'.vs i hik with e | e
    · exact ne hk e.symm
    · exact hi (h.down k hk i e)
  have onset : ∀ {k}, isOn l k → isOn (l.setIfInBounds i true) k := fun hk => getD_set_true hk
  have oni : isOn (l.setIfInBounds i true) i := by
    unfold isOn
    simp [h.size,hil]
  have hsz := hm.size
  refine ⟨by simp [h.size],?_,?_,?_,?_,?_,h.base.moves hm,?_,?_,?_,?_⟩
  · rw [← h.tsize]; cases o.dst <;> simp [Act.put]
  · rw [← h.defers]; cases o.dst <;> rfl
  · intro k hk t ht hts
    rw [hr.dst]
    rcases isOn_set hk with rfl | hk
    · rw [ht,upd_same]; simp [Act.put,h.tsize,hts]
    · rw [upd_other env v (ne hk)]
      cases hdi : slotOf D i with
      | none => exact h.hit k hk t ht hts
      | some t' =>
        have : t' ≠ t := fun e => hr.lone k (h.size ▸ isOn_lt hk) (ne hk) t' hdi (by rw [ht,e])
        simp only [Act.put,Array.getElem?_setIfInBounds_ne this]
        exact h.hit k hk t ht hts
  · intro t ht
    have := ht i oni
    rw [hr.dst]
    have hm := h.miss t (fun j hj => ht j (onset hj))
    cases hdi : slotOf D i with
    | none => exact hm
    | some t' =>
      have : t' ≠ t := fun e => this (by rw [hdi,e])
      simp only [Act.put,Array.getElem?_setIfInBounds_ne this]
      exact hm
  · intro k hk d hdk
    rcases isOn_set hk with rfl | hk
    · exact onset (hd d hdk)
    · exact onset (h.down k hk d hdk)
  · intro hno
    have := hno i oni
    unfold isOld at this
    rw [this] at hm
    exact (h.base0 fun j hj => hno j (onset hj)).moves0 hm
  · intro k hk hkl
    rcases isOn_set hk with rfl | hk
    · exact hf
    · have hki : k ∉ (rowAt D i).kill := hkl i oni
      have hfk := h.facts k hk (fun j hj => hkl j (onset hj))
      unfold FactAt at *
      rw [same hk]
      obtain ⟨ok,hok,hrk⟩ := row hk
      have hit : i ∉ needs D k := fun hik => hi (h.down k hk i hik)
      have onv : ∀ {v'}, v' ∈ (rowAt D k).vs → isOn l v' := fun {v'} hv' => by
        rcases hrk.vs v' hv' with e | e
        · exact e ▸ hk
        · exact h.down k hk v' e
      have nf : (rowAt D i).old = true ∨ (rowAt D i).tgt ≠ none → (specAt T k).frail = false := fun ht => by
        rw [(hown k).2]
        cases hfr : (rowAt D k).frail with
        | false => rfl
        | true => exact (hr.frail ht k (h.size ▸ isOn_lt hk) (ne hk) hfr hki hit).elim
      cases hold : (rowAt D i).old with
      | true =>
        rw [hold] at hm
        obtain ⟨p,hp,ht⟩ := hm
        refine (specAt T k).touch (nf (.inl hold)) _ _ _ p hfk ht fun ho x hx e => ?_
        obtain ⟨v',hv',rfl⟩ := List.mem_map.1 hx
        have hvv := hr.told hold k (h.size ▸ isOn_lt hk) (ne hk) (by rw [← (hown k).1]; exact ho) hki hit v' hv'
        obtain ⟨q,hq,_,eq⟩ := h.vlt v' hvv (onv hv')
        rw [eq] at e
        simp only [Ptr,Value.pointer.injEq,Option.some.injEq,Addr.mk.injEq] at e
        have := hE p hp
        omega
      | false =>
        rw [hold] at hm
        cases htg : (rowAt D i).tgt with
        | none => rw [htg] at hm; exact (specAt T k).below _ _ _ hfk hm
        | some u =>
          rw [htg] at hm
          obtain ⟨p,hp,_,ht⟩ := hm
          have hp : env u = Ptr p := hp
          refine (specAt T k).touch (nf (.inr (by rw [htg]; simp))) _ _ _ p hfk ht fun ho x hx e => ?_
          obtain ⟨v',hv',rfl⟩ := List.mem_map.1 hx
          obtain ⟨hun,hrest⟩ := hr.tgt u htg
          obtain ⟨huv,hvs⟩ := hrest k (h.size ▸ isOn_lt hk) (ne hk) (by rw [← (hown k).1]; exact ho) hki hit
          obtain ⟨hv1,hv2⟩ := hvs v' hv'
          exact h.apart v' hv1 u huv hv2 (onv hv') (hd u hun) (by rw [e,hp])
  · intro u hu v' hv' huv hou hov
    rcases isOn_set hou with hou' | hou' <;> rcases isOn_set hov with hov' | hov'
    · exact absurd (hou'.trans hov'.symm) huv
    · subst hou'
      rw [upd_same,upd_other env v (ne hov')]
      obtain ⟨p,_,hp,e⟩ := h.vlt v' hv' hov'
      rw [(hx (by simpa using hu)).1,e]
      intro e; simp only [Ptr,Value.pointer.injEq,Option.some.injEq,Addr.mk.injEq] at e; omega
    · subst hov'
      rw [upd_same,upd_other env v (ne hou')]
      obtain ⟨p,_,hp,e⟩ := h.vlt u hu hou'
      rw [(hx (by simpa using hv')).1,e]
      intro e; simp only [Ptr,Value.pointer.injEq,Option.some.injEq,Addr.mk.injEq] at e; omega
    · rw [upd_other env v (ne hou'),upd_other env v (ne hov')]
      exact h.apart u hu v' hv' huv hou' hov'
  · intro u hu hou
    rcases isOn_set hou with e | hou
    · subst e
      rw [upd_same]
      have := hx (by simpa using hu)
      exact ⟨_,h.base.2.2.2.1,this.2,this.1⟩
    · rw [upd_other env v (ne hou)]
      obtain ⟨p,h1,h2,h3⟩ := h.vlt u hu hou
      exact ⟨p,h1,Nat.lt_of_lt_of_le h2 hsz,h3⟩
theorem RgStat.look {D : List Row} {T : List Spec} {vars : List Nat} {W0 : World} {E : Nat → Prop} {a0 : Act} {l : Array Bool} {env : Nat → Value} {a : Act} {w : World} {i : Nat} {o : Oper}
    (h : RgStat ops D T vars W0 E a0 l env a w) (hr : OkRow md ops D vars i o) (hall : ∀ j o, ops[j]? = some o → OkRow md ops D vars j o) (hd : ∀ d ∈ needs D i, isOn l d) :
    ∀ t ∈ o.looksAt ops, a.tmps[t]? = (fill env (rowAt D i).need a0).tmps[t]? := by
  intro t ht
  rcases hr.look t ht with ⟨d,hdn⟩ | hno
  · have hod : isOn l d := hd d (List.mem_append_left _ (List.mem_map.2 ⟨_,hdn,rfl⟩))
    have hdl : d < ops.size := h.size ▸ isOn_lt hod
    have hsd : slotOf D d = some t := (hr.slot _ hdn).symm
    by_cases hts : t < a0.tmps.size
    · rw [h.hit d hod t hsd hts,fill_hit env t d _ _ hts _ hdn]
      intro p hp e
      have hsp : slotOf D p.1 = some t := by rw [← hr.slot p hp,e]
      have hpl : p.1 < ops.size := h.size ▸ isOn_lt (hd p.1 (List.mem_append_left _ (List.mem_map.2 ⟨_,hp,rfl⟩)))
      refine Classical.byContradiction fun hne => (hall d _ (Array.getElem?_eq_getElem hdl)).lone p.1 hpl hne t hsd hsp
    · rw [Array.getElem?_eq_none (h.tsize ▸ Nat.le_of_not_lt hts),Array.getElem?_eq_none (fill_size env _ a0 ▸ Nat.le_of_not_lt hts)]
  · rw [h.miss t (fun j hj => hno j (h.size ▸ isOn_lt hj)),fill_miss]
    intro p hp e
    exact hno p.1 (h.size ▸ isOn_lt (hd p.1 (List.mem_append_left _ (List.mem_map.2 ⟨_,hp,rfl⟩)))) (by rw [← hr.slot p hp,e])
def off (l : Array Bool) : Nat := l.toList.count false
theorem off_set {l : Array Bool} {i : Nat} (hi : i < l.size) (h : ¬ isOn l i) : off (l.setIfInBounds i true) + 1 = off l := by
  unfold off isOn at *
  have e : l.toList[i]'(by simpa using hi) = false := by simpa [hi] using h
  have hc : 0 < l.toList.count false := List.count_pos_iff.2 (by rw [← e]; exact List.getElem_mem _)
  rw [Array.toList_setIfInBounds,List.count_set (by simpa using hi)]
  have e2 : (true == false) = false := rfl
  simp only [e,e2,beq_self_eq_true,if_true,if_false,Bool.false_eq_true]
  omega
theorem none_off {l : Array Bool} (h : off l = 0) (i : Nat) (hi : i < l.size) : isOn l i := by
  unfold off at h
  unfold isOn
  have := List.count_eq_zero.1 h
  cases e : l[i] with
  | true => simp [hi,e]
  | false => exact absurd (by rw [← e]; simp) this
theorem rg_any {D : List Row} {T : List Spec} {vars : List Nat} {W0 : World} {E : Nat → Prop} {a0 : Act} (hro : F.round = none) (hall : ∀ j o, ops[j]? = some o → OkRow md ops D vars j o)
    (hown : ∀ k, (specAt T k).own = (rowAt D k).own ∧ (specAt T k).frail = (rowAt D k).frail) (hE : ∀ p, E p → p < W0.heap.size)
    (hrun : AllRuns F n P ops D T vars W0 E a0 (List.range ops.size))
    (hQ : ∀ env a w l, RgStat ops D T vars W0 E a0 l env a w → (∀ i, i < ops.size → isOn l i) → Q .normal a w) :
    ∀ (fuel : Nat) (l : Array Bool) (env : Nat → Value) (a : Act) (w : World), off l ≤ fuel → RgStat ops D T vars W0 E a0 l env a w → wpAnyIn F n P md ops Q fuel l a w := by
  have fin : ∀ {l env a w}, RgStat ops D T vars W0 E a0 l env a w → Region.ready md ops l = [] → Q .normal a w := fun {l env a w} h hr => by
    refine hQ env a w l h fun i => ?_
    induction i using Nat.strongRecOn with
    | ind i ih =>
      intro hi
      refine Classical.byContradiction fun hoff => ?_
      have : i ∈ Region.ready md ops l := by
        refine mem_ready.2 ⟨?_,ops[i],Array.getElem?_eq_getElem hi,fun e he hb => ?_⟩
        · have := h.size; unfold isOn at hoff; simp [this,hi] at hoff ⊢; exact hoff
        · have hlt : e.on < i := (hall i _ (Array.getElem?_eq_getElem hi)).back e.on (List.mem_map.2 ⟨e,List.mem_filter.2 ⟨by simpa using he,hb⟩,rfl⟩)
          exact ih e.on hlt (by omega)
      rw [hr] at this; cases this
  intro fuel
  induction fuel with
  | zero =>
    intro l env a w hf h
    have hz : off l = 0 := by omega
    have hr : Region.ready md ops l = [] := by
      refine List.eq_nil_iff_forall_not_mem.2 fun j hj => ?_
      obtain ⟨h0,o,ho,_⟩ := mem_ready.1 hj
      have hj : j < ops.size := (Array.getElem?_eq_some_iff.1 ho).1
      have := none_off hz j (by rw [h.size]; exact hj)
      unfold isOn at this
      simp [h.size,hj] at this h0
      rw [this] at h0; cases h0
    exact ⟨hr,fin h hr⟩
  | succ fuel ih =>
    intro l env a w hf h
    refine ⟨fin h,fun i hi => ?_⟩
    obtain ⟨h0,o,ho,hafter⟩ := mem_ready.1 hi
    have hil : i < ops.size := (Array.getElem?_eq_some_iff.1 ho).1
    have hoff : ¬ isOn l i := by unfold isOn; simp [h.size,hil] at h0 ⊢; exact h0
    have hr := hall i o ho
    have hon : ∀ e ∈ afters md o, isOn l e := fun e he => by
      obtain ⟨x,hx,rfl⟩ := List.mem_map.1 he
      obtain ⟨hx1,hx2⟩ := List.mem_filter.1 hx
      exact hafter x (by simpa using hx1) hx2
    have hd : ∀ d ∈ needs D i, isOn l d := fun d hd => by
      rcases hr.near d hd with e | ⟨e,he,hde⟩
      · exact hon d e
      · exact h.down e (hon e he) d hde
    have hbase : Base W0 (bif (rowAt D i).base then (fun _ => False) else E) w := by
      cases hb : (rowAt D i).base with
      | false => exact h.base
      | true =>
        refine h.base0 fun j hj => ?_
        cases ho : isOld D j with
        | false => rfl
        | true => exact absurd (h.down j hj i (hr.base hb j (h.size ▸ isOn_lt hj) ho fun e => hoff (e ▸ hj))) hoff
    have hneed : AllNeed D T env w ((rowAt D i).need.map (·.1)) := .of fun k hk0 => have hk := List.mem_append_left _ hk0; h.facts k (hd k hk) fun j hj hkk => by
      rcases hr.fresh k hk0 j (h.size ▸ isOn_lt hj) hkk with e | e
      · exact hoff (e ▸ hj)
      · exact hoff (h.down j hj i e)
    have R := hrun i (List.mem_range.2 hil) o ho env w hbase hneed
    refine wpOpIn_mono ?_ (R.wpOp hro ho hr.sel (by rw [h.tsize,fill_size]) (h.look hr hall hd))
    rintro a' w' ⟨v,rfl,hm,hff,hx⟩
    refine ih _ _ _ _ ?_ (h.step ho hr hall hoff hd hown hE hm hff hx)
    have := off_set (h.size ▸ hil) hoff
    omega
def allOf (D : List Row) : List Nat → List (Nat × Option Nat)
  | [] => []
  | i :: l => (i, slotOf D i) :: allOf D l
def okLive (n : Nat) (D : List Row) (live vars : List Nat) : Bool :=
  live.all (fun k => decide (k < n) && (List.range n).all fun j => !(rowAt D j).kill.contains k) && vars.all fun v => decide (v < n)
theorem AllRuns.nil {D : List Row} {T : List Spec} {vars : List Nat} {W0 : World} {E : Nat → Prop} {a0 : Act} : AllRuns F n P ops D T vars W0 E a0 [] := fun _ h => by cases h
theorem AllRuns.cons {D : List Row} {T : List Spec} {vars : List Nat} {W0 : World} {E : Nat → Prop} {a0 : Act} {i : Nat} {o : Oper} {is : List Nat} (d : Option Nat) (l : List (Nat × Option Nat)) (vs : List Nat) (ho : ops[i]? = some o) (hd : o.dst = d) (hl : (rowAt D i).need = l) (hvs : (rowAt D i).vs = vs) (tg : Option Nat) (htg : (rowAt D i).tgt = tg) (E1 : Nat → Prop) (b : Bool) (hE1 : (bif (rowAt D i).base then (fun _ => False) else E) = E1) (hb : (rowAt D i).old = b)
    (h : ∀ env w, Base W0 E1 w → AllNeed D T env w (l.map (·.1)) → ∀ K : Act → World → Prop, Hid (∀ v w', Moves W0 E b (tg.map env) w w' → (specAt T i).φ (vs.map (upd env i v)) w' → (vars.contains i = true → v = Ptr w.heap.size ∧ w.heap.size < w'.heap.size) → K ((fill env l a0).put d v) w') →
      if Region.wanted o (yielded ops (fill env l a0).tmps) = true then o.wpIn F n P (fill env l a0) w K (fun _ _ _ => False) else (∀ f, o.about P w (fill env l a0).eval = some f → F.fn f) ∧ K ((fill env l a0).put o.dst undef) w)
    (rest : AllRuns F n P ops D T vars W0 E a0 is) : AllRuns F n P ops D T vars W0 E a0 (i :: is) := fun j hj => by
  rcases List.mem_cons.1 hj with rfl | hj
  · intro o' ho' env w hB hN K hK
    obtain rfl : o = o' := Option.some.inj (ho.symm.trans ho')
    subst hl hvs htg hE1 hb hd
    exact h env w hB hN K fun v w' h1 h2 h3 => hK v w' ⟨h1,h2,h3⟩
  · exact rest j hj
/-- THE LAW: W is the world in which the region begins. -/
theorem region_rg {id : Nat} {a0 : Act} {W : World} (D : List Row) (T : List Spec) (vars : List Nat) (E : Nat → Prop) (is live : List Nat) (hm : P.follows .mixedOrders = true) (hro : F.round = none) (hok : okPlan .any ops D vars = true)
    (hown : T.map (fun s => (s.own,s.frail)) = D.map (fun r => (r.own,r.frail))) (hE : ∀ p, E p → p < W.heap.size) (his : List.range ops.size = is) (hlv : okLive ops.size D live vars = true) (all : List (Nat × Option Nat)) (hal : allOf D is = all)
    (hrun : AllRuns F n P ops D T vars W E a0 is)
    (hQ : ∀ env w, Base W E w → AllNeed D T env w live → (∀ v ∈ vars, ∃ p, W.heap.size ≤ p ∧ p < w.heap.size ∧ env v = Ptr p) → (∀ u ∈ vars, ∀ v ∈ vars, u ≠ v → env u ≠ env v) → Q .normal (fill env all a0) w) :
    (Code.region id ops true).wpIn F n P Q a0 W := by
  subst hal
  subst his
  have hlive : ∀ k ∈ live, k < ops.size ∧ ∀ j, j < ops.size → k ∉ (rowAt D j).kill := fun k hk => by
    have := List.all_eq_true.1 (Bool.and_eq_true_iff.1 hlv).1 k hk
    simp only [Bool.and_eq_true,decide_eq_true_eq,List.all_eq_true,List.mem_range,Bool.not_eq_true',List.contains_eq_mem,decide_eq_false_iff_not] at this
    exact this
  have hvars : ∀ v ∈ vars, v < ops.size := fun v hv => by simpa using List.all_eq_true.1 (Bool.and_eq_true_iff.1 hlv).2 v hv
  have hall := fun j o h => okPlan_row (md := .any) (ops := ops) (D := D) (vars := vars) hok (i := j) (o := o) h
  have hownk : ∀ k, (specAt T k).own = (rowAt D k).own ∧ (specAt T k).frail = (rowAt D k).frail := fun k => by
    have h1 := congrArg (fun l => l[k]?) hown
    simp only [List.getElem?_map] at h1
    unfold specAt rowAt
    rw [List.getD_eq_getElem?_getD,List.getD_eq_getElem?_getD]
    cases hT : T[k]? <;> cases hD : D[k]? <;> simp [hT,hD] at h1 ⊢
    · exact ⟨rfl,rfl⟩
    · exact h1
  have memAll : ∀ {l : List Nat} {p : Nat × Option Nat}, p ∈ allOf D l → p.1 ∈ l ∧ p.2 = slotOf D p.1 := fun {l} => by
    induction l with
    | nil => intro p h; cases h
    | cons i l ih => intro p h; rcases List.mem_cons.1 h with rfl | h; exact ⟨by simp,rfl⟩; exact ⟨by simp [(ih h).1],(ih h).2⟩
  have inAll : ∀ {l : List Nat} {i : Nat}, i ∈ l → (i, slotOf D i) ∈ allOf D l := fun {l} => by
    induction l with
    | nil => intro i h; cases h
    | cons j l ih => intro i h; rcases List.mem_cons.1 h with rfl | h; exact List.mem_cons_self; exact List.mem_cons_of_mem _ (ih h)
  refine wpIn_region_any hm (rg_any (D := D) (T := T) (vars := vars) (W0 := W) (E := E) (a0 := a0) hro hall hownk hE hrun ?_ ops.size _ (fun _ => undef) a0 _ ?_ ?_)
  · intro env a w l h hon
    have e : a = fill env (allOf D (List.range ops.size)) a0 := by
      have ht : a.tmps = (fill env (allOf D (List.range ops.size)) a0).tmps := by
        refine Array.ext_getElem? fun t => ?_
        by_cases hts : t < a0.tmps.size
        · by_cases hex : ∃ i, i < ops.size ∧ slotOf D i = some t
          · obtain ⟨i,hi,hit⟩ := hex
            rw [h.hit i (hon i hi) t hit hts,fill_hit env t i _ _ hts]
            · intro p hp e
              have := memAll hp
              have hpl := List.mem_range.1 this.1
              refine Classical.byContradiction fun hne => (hall i _ (Array.getElem?_eq_getElem hi)).lone p.1 hpl hne t hit (by rw [← this.2,e])
            · rw [← hit]; exact inAll (List.mem_range.2 hi)
          · have hno : ∀ i, i < ops.size → slotOf D i ≠ some t := fun i hi e => hex ⟨i,hi,e⟩
            rw [h.miss t (fun i hi => hno i (h.size ▸ isOn_lt hi)),fill_miss]
            intro p hp e
            exact hno p.1 (List.mem_range.1 (memAll hp).1) (by rw [← (memAll hp).2,e])
        · rw [Array.getElem?_eq_none (h.tsize ▸ Nat.le_of_not_lt hts),Array.getElem?_eq_none (fill_size env _ a0 ▸ Nat.le_of_not_lt hts)]
      have hd : a.defers = (fill env (allOf D (List.range ops.size)) a0).defers := by rw [h.defers,fill_defers]
      cases a; simp only at ht hd; rw [ht,hd]
    rw [e]
    exact hQ env w h.base (.of fun k hk => h.facts k (hon k (hlive k hk).1) fun j hj => (hlive k hk).2 j (h.size ▸ isOn_lt hj))
      (fun v hv => h.vlt v hv (hon v (hvars v hv))) fun u hu v hv huv => h.apart u hu v hv huv (hon u (hvars u hu)) (hon v (hvars v hv))
  · unfold off; simp
  · have no : ∀ i, ¬ isOn (Array.replicate ops.size false) i := fun i h => by
      have := isOn_lt h
      unfold isOn at h
      simp at this
      simp [this] at h
    exact ⟨by simp,rfl,rfl,fun i h => (no i h).elim,fun _ _ => rfl,fun i h => (no i h).elim,Base.refl W E,fun _ => Base.refl W _,fun k h => (no k h).elim,fun u _ v _ _ h => (no u h).elim,fun u _ h => (no u h).elim⟩
end
end Go.Proofs.YtgccgacpifebbaaGreatDoor
namespace Go.Proofs.YtgccgacpifebbaaGreatDoor
open Go.RowKit
set_option linter.unusedVariables false
/-- The value is this one. -/
def Spec.lit (v : Value) : Spec := ⟨fun vs _ => vs.headD undef = v,false,false,fun _ _ _ h _ => h,fun _ _ _ _ _ h _ _ => h⟩
theorem Arr.touch {w w' : World} {b p : Nat} {t : TypeId} {k : IntKind} {l : List Int} (h : Arr w b t k l) (ht : Touch p w w') : Arr w' b t k l := by
  obtain ⟨⟨_,_,_,_,hk⟩,cs,cs',t',h1,_,_,⟨i,q,m,c,h2⟩,_⟩ := ht
  refine (hk b ?_).trans h
  rintro rfl
  unfold Arr at h
  rw [h] at h1
  cases h1
  simp at h2
theorem IsNat.touch {w w' : World} {p : Nat} {v : Value} {n : Int} (h : IsNat w v n) (ht : Touch p w w') : IsNat w' v n := by
  rcases h with h | ⟨b,t,len,cap,l,hv,ha,r⟩
  · exact .inl h
  · exact .inr ⟨b,t,len,cap,l,hv,ha.touch ht,r⟩
theorem IsInt.touch {w w' : World} {p : Nat} {v : Value} {z : Int} (h : IsInt w v z) (ht : Touch p w w') : IsInt w' v z := by
  obtain ⟨x,q,l,c,hv,hn⟩ := h
  exact ⟨x,q,l,c,hv,hn.touch ht⟩
/-- The value is this number. -/
def Spec.nat (n : Int) : Spec := ⟨fun vs w => IsNat w (vs.headD undef) n,false,false,fun _ _ _ h b => h.below b,fun _ _ _ _ _ h t _ => h.touch t⟩
def Spec.int (n : Int) : Spec := ⟨fun vs w => IsInt w (vs.headD undef) n,false,false,fun _ _ _ h b => h.below b,fun _ _ _ _ _ h t _ => h.touch t⟩
/-- The value is a pair of such ones, and a word beside. -/
def Spec.two (p : Value → World → Prop) (q : Value → World → Prop) (x : Value) (hp : ∀ v w w', p v w → Below w.heap.size w w' → p v w') (hq : ∀ v w w', q v w → Below w.heap.size w w' → q v w')
    (tp : ∀ v w w' k, p v w → Touch k w w' → p v w') (tq : ∀ v w w' k, q v w → Touch k w w' → q v w') : Spec :=
  ⟨fun vs w => ∃ a b, vs.headD undef = .tuple #[a,b,x] ∧ p a w ∧ q b w,false,false,fun _ _ _ ⟨a,b,e,h1,h2⟩ hb => ⟨a,b,e,hp _ _ _ h1 hb,hq _ _ _ h2 hb⟩,fun _ _ _ _ _ ⟨a,b,e,h1,h2⟩ ht _ => ⟨a,b,e,tp _ _ _ _ h1 ht,tq _ _ _ _ h2 ht⟩⟩
def Spec.natnat (m n : Int) (x : Value) : Spec := .two (fun v w => IsNat w v m) (fun v w => IsNat w v n) x (fun _ _ _ h b => h.below b) (fun _ _ _ h b => h.below b) (fun _ _ _ _ h t => h.touch t) (fun _ _ _ _ h t => h.touch t)
/-- A variable of the region's own, from block B on: it holds what c tells, and c lasts. -/
def Spec.box (B : Nat) (t : TypeId) (c : List Value → World → Prop) (hb : ∀ l w w', c l w → Below w.heap.size w w' → c l w') (ht : ∀ l w w' k, c l w → Touch k w w' → c l w') : Spec :=
  ⟨fun vs w => ∃ p, ∃ l : List Value, vs.headD undef = Ptr p ∧ B ≤ p ∧ w.heap[p]? = some (.cells l.toArray t (0,0)) ∧ c l w,true,false,
   fun _ w w' h b => by
     obtain ⟨p,l,e,h1,h2,h3⟩ := h
     exact ⟨p,l,e,h1,(b.block p (Array.getElem?_eq_some_iff.1 h2).1).trans h2,hb _ _ _ h3 b⟩,
   fun _ vs w w' k h tt hne => by
     obtain ⟨p,l,e,h1,h2,h3⟩ := h
     refine ⟨p,l,e,h1,(tt.1.2.2.2.2 p ?_).trans h2,ht _ _ _ _ h3 tt⟩
     rintro rfl
     cases vs with
     | nil => simp only [List.headD] at e; cases e
     | cons x xs => exact hne rfl x (by simp) e⟩
/-- A new variable of a number. -/
def Spec.nat0 (B : Nat) : Spec := .box B 26 (fun l _ => l = [.int .u64 0,.slice none 0 0]) (fun _ _ _ h _ => h) (fun _ _ _ _ h _ => h)
/-- A variable that holds the number n. -/
def Spec.natv (B : Nat) (n : Int) : Spec := .box B 26 (fun l w => ∃ x q m c, l = [.int .u64 x,.slice q m c] ∧ IsNat w (.agg #[.int .u64 x,.slice q m c]) n) (fun _ _ _ ⟨x,q,m,c,e,h⟩ b => ⟨x,q,m,c,e,h.below b⟩) (fun _ _ _ _ ⟨x,q,m,c,e,h⟩ t => ⟨x,q,m,c,e,h.touch t⟩)
theorem hid {p : Prop} (h : Hid p) : p := h
theorem novar {p : Prop} {b : Bool} (h : b = false) : b = true → p := fun e => by rw [h] at e; cases e
theorem Touch.nat {w : World} {p : Nat} {x : Value} {q : Option Addr} {m c : Nat} {x' : Value} {q' : Option Addr} {m' c' : Nat} (h : w.heap[p]? = some (.cells #[x,.slice q m c] 26 (0,0))) :
    Touch p w ((w.setCell ⟨p,0,none⟩ x').setCell ⟨p,1,none⟩ (.slice q' m' c')) ∧ ((w.setCell ⟨p,0,none⟩ x').setCell ⟨p,1,none⟩ (.slice q' m' c')).heap[p]? = some (.cells #[x',.slice q' m' c'] 26 (0,0)) := by
  have h1 : (w.setCell ⟨p,0,none⟩ x').heap[p]? = some (.cells #[x',.slice q m c] 26 (0,0)) := by rw [heap_setCell_same w p 0 _ _ _ h]; rfl
  have h2 : ((w.setCell ⟨p,0,none⟩ x').setCell ⟨p,1,none⟩ (.slice q' m' c')).heap[p]? = some (.cells #[x',.slice q' m' c'] 26 (0,0)) := by rw [heap_setCell_same _ p 1 _ _ _ h1]; rfl
  exact ⟨⟨⟨rfl,rfl,rfl,by simp [World.setCell],fun k hk => (heap_setCell_other _ _ k _ hk).trans (heap_setCell_other _ _ k _ hk)⟩,_,_,_,h,h2,rfl,⟨1,_,_,_,rfl⟩,⟨1,_,_,_,rfl⟩⟩,h2⟩
/-- The value is a slice of which C tells. -/
def Spec.slice (C : Value → World → Prop) (hC : ∀ v w w', C v w → Below w.heap.size w w' → C v w') (tC : ∀ v w w' k, C v w → Touch k w w' → C v w') : Spec :=
  ⟨fun vs w => ∃ p l c, vs.headD undef = .slice p l c ∧ C (.slice p l c) w,false,false,fun _ _ _ ⟨p,l,c,e,h⟩ b => ⟨p,l,c,e,hC _ _ _ h b⟩,fun _ _ _ _ _ ⟨p,l,c,e,h⟩ t _ => ⟨p,l,c,e,tC _ _ _ _ h t⟩⟩
/-- Of a world that nothing turns any more. -/
def Spec.last (φ : List Value → World → Prop) (h : ∀ vs w w', φ vs w → Below w.heap.size w w' → φ vs w') : Spec := { φ := φ, own := false, frail := true, below := h, touch := fun h => by cases h }
/-- The value is v, and u is the number n. -/
def Spec.litnat (v u : Value) (n : Int) : Spec := ⟨fun vs w => vs.headD undef = v ∧ IsNat w u n,false,false,fun _ _ _ h b => ⟨h.1,h.2.below b⟩,fun _ _ _ _ _ h t _ => ⟨h.1,h.2.touch t⟩⟩
/-- Block b alone has turned, in some of its cells. -/
def Chg (b : Nat) (w w' : World) : Prop := w'.os = w.os ∧ w'.tape = w.tape ∧ w'.output = w.output ∧ w'.heap.size = w.heap.size ∧ ∀ k, k ≠ b → w'.heap[k]? = w.heap[k]?
theorem Chg.refl (b : Nat) (w : World) : Chg b w w := ⟨rfl,rfl,rfl,rfl,fun _ _ => rfl⟩
theorem Chg.set {b : Nat} {w w' : World} (h : Chg b w w') (i : Nat) (v : Value) : Chg b w (w'.setCell ⟨b,i,none⟩ v) :=
  ⟨h.1,h.2.1,h.2.2.1,by simp [World.setCell,h.2.2.2.1],fun k hk => (heap_setCell_other w' _ k v hk).trans (h.2.2.2.2 k hk)⟩
/-- The value is v, and c holds, which lasts. -/
def Spec.litc (v : Value) (c : World → Prop) (hc : ∀ w w', c w → Below w.heap.size w w' → c w') (tc : ∀ w w' k, c w → Touch k w w' → c w') : Spec := ⟨fun vs w => vs.headD undef = v ∧ c w,false,false,fun _ _ _ h b => ⟨h.1,hc _ _ h.2 b⟩,fun _ _ _ _ _ h t _ => ⟨h.1,tc _ _ _ h.2 t⟩⟩
theorem IsInt.cells {w : World} {v : Value} {z : Int} (h : IsInt w v z) : ∃ b x p l c,v = .agg #[.bool b,.int .u64 x,.slice p l c] ∧ IsInt w (.agg #[.bool b,.int .u64 x,.slice p l c]) z := by
  obtain ⟨x,p,l,c,rfl,hn⟩ := h
  exact ⟨_,_,_,_,_,rfl,⟨x,p,l,c,rfl,hn⟩⟩
end Go.Proofs.YtgccgacpifebbaaGreatDoor
