/- The law itself: a region that draws its order, whose operations read, call functions that only make new memory, make new variables, and fill them. -/
import Derived.Test.YtfpeliolngfkpaaMakeB
namespace Go.Proofs.Ytfpeliolngfkpaa
open Go.RowKit
set_option maxRecDepth 100000

section
variable {P : Program} {ops : Array Oper} {Q : Exit → Act → World → Prop}

/-- What is said of the new variables: of each its operation's number, type, first content, last content, and the number of the store that fills it. -/
structure Made where
  op : Nat
  type : TypeId
  zero : Array Value
  full : Array Value
  store : Nat

structure MadeOk (P : Program) (ops : Array Oper) (aQ : Act) (ms : List Made) : Prop where
  alloc : ∀ m ∈ ms, ∃ o, ops[m.op]? = some o ∧ o.guard = none ∧ kindOf o = 1 ∧ ∀ (ρ : Operand → Value) (w : World), (execOp ρ o).run P w = .ok (.value (.pointer (some ⟨w.heap.size, 0, none⟩))) (w.alloc (.cells m.zero m.type))
  store : ∀ m ∈ ms, ∃ (o : Oper) (d : Tmp) (x : Operand), ops[m.store]? = some o ∧ o.guard = none ∧ o.dst = none ∧ kindOf o = 2 ∧ (ops[m.op]?).bind (·.dst) = some d ∧ d < aQ.tmps.size ∧ .tmp d ∈ o.op.operands ∧ x ∈ o.op.operands ∧ (∀ m' ∈ ms, (ops[m'.op]?).bind (·.dst) = some d → m' = m) ∧
      (∀ e, x = .tmp e → ∀ m' ∈ ms, (ops[m'.op]?).bind (·.dst) ≠ some e) ∧ aQ.eval x = .agg m.full ∧
      ∀ (ρ : Operand → Value) (b : Nat) (w : World), ρ (.tmp d) = .pointer (some ⟨b, 0, none⟩) → ρ x = .agg m.full → w.heap[b]? = some (.cells m.zero m.type) → (execOp ρ o).run P w = .ok .skip (w.setRow b m.full)
  allAlloc : ∀ i o, ops[i]? = some o → kindOf o = 1 → ∃ m ∈ ms, m.op = i
  allStore : ∀ i o, ops[i]? = some o → kindOf o = 2 → ∃ m ∈ ms, m.store = i
  onceA : ∀ m ∈ ms, ∀ m' ∈ ms, m.op = m'.op → m = m'
  onceS : ∀ m ∈ ms, ∀ m' ∈ ms, m.store = m'.store → m = m'

/-- Where the new variables lie. -/
structure Lies (w0 : World) (ms : List Made) (L : Nat → Prop) (full : Made → Prop) (V : Nat → Value) (w : World) : Prop where
  here : ∀ m ∈ ms, L m.op → ∃ b, V m.op = .pointer (some ⟨b, 0, none⟩) ∧ w0.heap.size ≤ b ∧ b < w.heap.size ∧ (full m → w.heap[b]? = some (.cells m.full m.type)) ∧ (¬ full m → w.heap[b]? = some (.cells m.zero m.type))
  apart : ∀ m ∈ ms, ∀ m' ∈ ms, L m.op → L m'.op → m ≠ m' → V m.op ≠ V m'.op

/-- Every operation waits for earlier ones alone. -/
def fwdB (ops : Array Oper) : Bool := (List.range ops.size).all fun i => match ops[i]? with | some o => o.after.all fun e => !Region.binds .any e || decide (e.on < i) | none => true
theorem fwdB_spec (h : fwdB ops = true) {i : Nat} {o : Oper} (hi : ops[i]? = some o) {e : Edge} (he : e ∈ o.after) (hb : Region.binds .any e = true) : e.on < i := by
  have h1 := List.all_eq_true.1 h i (List.mem_range.2 (Array.getElem?_eq_some_iff.1 hi).1)
  simp only [hi] at h1
  have h2 := Array.all_eq_true_iff_forall_mem.1 h1 e he
  simpa [hb] using h2

/-- Which operations have come up. -/
abbrev up (listed : Array Bool) (j : Nat) : Prop := listed.getD j false = true
theorem up_set {listed : Array Bool} {i : Nat} (hi : i < listed.size) (j : Nat) : up (listed.setIfInBounds i true) j ↔ (up listed j ∨ j = i) := by
  unfold up
  by_cases h : j = i
  · subst h; simp [hi]
  · have h' : i ≠ j := fun e => h e.symm
    simp [Array.getElem?_setIfInBounds_ne h', h]
theorem not_up {listed : Array Bool} {i : Nat} (h : listed.getD i true = false) : ¬ up listed i := fun h' => by
  unfold up at h'
  rcases Nat.lt_or_ge i listed.size with hl | hl
  · simp [hl] at h h'; rw [h] at h'; cases h'
  · simp [Array.getElem?_eq_none hl] at h

theorem setRow_other (w : World) (b k : Nat) (cs : Array Value) (h : k ≠ b) : (w.setRow b cs).heap[k]? = w.heap[k]? := by
  simp only [World.setRow, Array.getElem?_modify]
  rw [if_neg (fun e => h e.symm)]
theorem setRow_size (w : World) (b : Nat) (cs : Array Value) : (w.setRow b cs).heap.size = w.heap.size := by simp [World.setRow]
theorem below_setRow {B : Nat} {w0 w : World} (h : Below B w0 w) {b : Nat} (hb : B ≤ b) (cs : Array Value) : Below B w0 (w.setRow b cs) :=
  ⟨h.os, h.tape, h.output, by rw [setRow_size]; exact h.size, fun k hk => by rw [setRow_other _ _ _ _ (by omega)]; exact h.block k hk⟩

structure J (ops : Array Oper) (w0 : World) (a0 aQ : Act) (ms : List Made) (listed : Array Bool) (a : Act) (w : World) : Prop where
  size : listed.size = ops.size
  closed : ∀ j o, ops[j]? = some o → up listed j → ∀ e ∈ o.after, Region.binds .any e = true → up listed e.on
  below : Below w0.heap.size w0 w
  rest : ∃ V : Nat → Value, (∀ i o, ops[i]? = some o → kindOf o = 0 → V i = valQ ops aQ i) ∧ Fr ops a0 (up listed) V a ∧ Lies w0 ms (up listed) (fun m => up listed m.store) V w

theorem closed_set {listed : Array Bool} (hsz : listed.size = ops.size) (hc : ∀ j o, ops[j]? = some o → up listed j → ∀ e ∈ o.after, Region.binds .any e = true → up listed e.on) {i : Nat} (hi : i ∈ Region.ready .any ops listed) :
    ∀ j o, ops[j]? = some o → up (listed.setIfInBounds i true) j → ∀ e ∈ o.after, Region.binds .any e = true → up (listed.setIfInBounds i true) e.on := by
  obtain ⟨_, oi, hoi, hall⟩ := mem_ready' hi
  have hlt : i < listed.size := by rw [hsz]; exact (Array.getElem?_eq_some_iff.1 hoi).1
  intro j o hj hu e he hb
  rw [up_set hlt] at hu ⊢
  rcases hu with hu | rfl
  · exact .inl (hc j o hj hu e he hb)
  · rw [hoi] at hj; cases hj
    exact .inl (hall e he hb)

theorem look_up (hB : makeB ops = true) {listed : Array Bool} (hc : ∀ j o, ops[j]? = some o → up listed j → ∀ e ∈ o.after, Region.binds .any e = true → up listed e.on) {i : Nat} {o : Oper} (hi : i ∈ Region.ready .any ops listed) (ho : ops[i]? = some o)
    {j : Nat} {oj : Oper} {s : Tmp} (hj : ops[j]? = some oj) (hd : oj.dst = some s) (hs : s ∈ o.looksAt ops) (hij : i ≠ j) :
    (kindOf o = 0 → kindOf oj = 0 ∧ (up listed j ↔ j < i)) ∧ (kindOf o ≠ 0 → up listed j) := by
  obtain ⟨hun, oi, hoi, hall⟩ := mem_ready' hi
  rw [ho] at hoi; cases hoi
  have hp := makeB_pair hB ho hj hij
  simp only [pairB, hd, Bool.and_eq_true, Bool.or_eq_true, Bool.not_eq_true', List.contains_eq_mem, decide_eq_false_iff_not] at hp
  have hp2 := hp.2.resolve_left (fun h => h hs)
  have dep : ∀ k l, waitsB ops k l = true → k = i → up listed l := fun k l h e => by
    obtain ⟨o', ho', e', he', hb, hon⟩ := waitsB_spec h
    subst e
    rw [ho] at ho'; cases ho'
    rw [← hon]; exact hall e' he' hb
  refine ⟨fun hz => ?_, fun hz => ?_⟩
  · rw [if_pos hz] at hp2
    simp only [Bool.and_eq_true, beq_iff_eq] at hp2
    refine ⟨hp2.1, ?_⟩
    by_cases hji : j < i
    · rw [if_pos hji] at hp2
      exact ⟨fun _ => hji, fun _ => dep _ _ hp2.2 rfl⟩
    · rw [if_neg hji] at hp2
      refine ⟨fun hu => ?_, fun h => absurd h hji⟩
      obtain ⟨o', ho', e', he', hb, hon⟩ := waitsB_spec hp2.2
      have := hc j o' ho' hu e' he' hb
      rw [hon] at this
      exact absurd this (not_up hun)
  · rw [if_neg hz] at hp2
    simp only [Bool.and_eq_true, decide_eq_true_eq] at hp2
    exact dep _ _ hp2.2 rfl
end
end Go.Proofs.Ytfpeliolngfkpaa
