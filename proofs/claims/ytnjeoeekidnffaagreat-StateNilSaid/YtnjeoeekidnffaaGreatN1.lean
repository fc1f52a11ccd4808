/- The law of the text before this one, put together: a region that draws its order, with new variables that it fills. -/
import Derived.Test.YtnjeoeekidnffaaGreatN0
namespace Go.Proofs.YtnjeoeekidnffaaGreat
open Go.RowKit
set_option maxRecDepth 100000

section
variable {P : Program} {ops : Array Oper} {Q : Exit → Act → World → Prop}

/-- 0: reads or calls; 1: a new variable; 2: a store. -/
def kindOf (o : Oper) : Nat := match o.op with | .alloc _ => 1 | .store _ _ _ => 2 | _ => 0
def waitsB (ops : Array Oper) (i j : Nat) : Bool := match ops[i]? with | some o => o.after.any fun e => Region.binds .any e && e.on == j | none => false

/-- Of two operations: what one of them writes. -/
def pairB (ops : Array Oper) (i j : Nat) (oi oj : Oper) : Bool :=
  match oj.dst with
  | none => true
  | some s => (oi.dst != some s) && (!(oi.looksAt ops).contains s ||
      (if kindOf oi = 0 then kindOf oj == 0 && (if j < i then waitsB ops i j else waitsB ops j i) else decide (j < i) && waitsB ops i j))
def makeB (ops : Array Oper) : Bool :=
  Region.noSelect ops && (List.range ops.size).all fun i => (List.range ops.size).all fun j => decide (i = j) ||
    match ops[i]?, ops[j]? with | some oi, some oj => pairB ops i j oi oj | _, _ => true

theorem makeB_pair (h : makeB ops = true) {i j : Nat} {oi oj : Oper} (hi : ops[i]? = some oi) (hj : ops[j]? = some oj) (hij : i ≠ j) : pairB ops i j oi oj = true := by
  simp only [makeB, Bool.and_eq_true] at h
  have h1 := List.all_eq_true.1 h.2 i (List.mem_range.2 (Array.getElem?_eq_some_iff.1 hi).1)
  have h2 := List.all_eq_true.1 h1 j (List.mem_range.2 (Array.getElem?_eq_some_iff.1 hj).1)
  simp only [Bool.or_eq_true, decide_eq_true_eq, hij, false_or, hi, hj] at h2
  exact h2
theorem makeB_once (h : makeB ops = true) : Once ops := fun i j oi oj s hi hj hs hs' => by
  by_cases hij : i = j
  · exact hij
  · have := makeB_pair h hi hj hij
    simp [pairB, hs, hs'] at this
theorem waitsB_spec {i j : Nat} (h : waitsB ops i j = true) : ∃ o, ops[i]? = some o ∧ ∃ e ∈ o.after, Region.binds .any e = true ∧ e.on = j := by
  unfold waitsB at h
  split at h
  · rename_i o ho
    obtain ⟨e, he, hb⟩ := Array.any_eq_true'.1 h
    simp only [Bool.and_eq_true, beq_iff_eq] at hb
    exact ⟨o, ho, e, he, hb.1, hb.2⟩
  · cases h

/-- The class of worlds: all that lay in w lies as it lay. -/
abbrev cls (w : World) : World → Prop := fun w' => ∃ g : Ext w, w' = g.on

theorem quiet_keeps {C : World → Prop} {aQ : Act} : ∀ (l : List Oper) (a : Act), wpQuiet P ops C (fun a' => a' = aQ) l a →
    a.defers = aQ.defers ∧ a.tmps.size = aQ.tmps.size ∧ ∀ s, (∀ o ∈ l, o.dst ≠ some s) → a.tmps[s]? = aQ.tmps[s]?
  | [], a, h => by cases (h : a = aQ); exact ⟨rfl, rfl, fun _ _ => rfl⟩
  | o :: l, a, h => by
    have key : ∀ v, wpQuiet P ops C (fun a' => a' = aQ) l (a.put o.dst v) → a.defers = aQ.defers ∧ a.tmps.size = aQ.tmps.size ∧ ∀ s, (∀ o' ∈ o :: l, o'.dst ≠ some s) → a.tmps[s]? = aQ.tmps[s]? := fun v hv => by
      obtain ⟨h1, h2, h3⟩ := quiet_keeps l _ hv
      cases hd : o.dst with
      | none =>
        rw [hd] at h1 h2 h3
        exact ⟨h1, h2, fun s hs => h3 s fun o' ho' => hs o' (List.mem_cons_of_mem _ ho')⟩
      | some d =>
        rw [hd] at h1 h2 h3
        refine ⟨h1, by simpa [Act.put] using h2, fun s hs => ?_⟩
        rw [← h3 s fun o' ho' => hs o' (List.mem_cons_of_mem _ ho')]
        have hne : d ≠ s := fun e => hs o (List.mem_cons_self ..) (e ▸ hd)
        simp only [Act.put]
        rw [Array.getElem?_setIfInBounds_ne hne]
    unfold wpQuiet at h
    split at h
    · obtain ⟨v, _, hv⟩ := h
      exact key v hv
    · exact key _ h

def valQ (ops : Array Oper) (aQ : Act) (i : Nat) : Value := match (ops[i]?).bind (·.dst) with | some d => aQ.tmps.getD d undef | none => undef
def quietL (ops : Array Oper) (k : Nat) : List Oper := (ops.toList.drop k).filter (kindOf · == 0)

theorem quietL_step {k : Nat} {o : Oper} (hk : ops[k]? = some o) : quietL ops k = (if kindOf o = 0 then [o] else []) ++ quietL ops (k + 1) := by
  have hlt : k < ops.toList.length := by simpa using (Array.getElem?_eq_some_iff.1 hk).1
  have he : ops.toList[k] = o := by simpa using (Array.getElem?_eq_some_iff.1 hk).2
  unfold quietL
  rw [List.drop_eq_getElem_cons hlt, he, List.filter_cons]
  by_cases h : kindOf o = 0 <;> simp [h]

/-- What the walk in the text's order shows of each quiet operation. -/
theorem quiet_each (hO : Once ops) {C : World → Prop} {a0 aQ : Act} : ∀ (d k : Nat) (a : Act), ops.size - k = d → Fr ops a0 (fun j => j < k ∧ ∃ o, ops[j]? = some o ∧ kindOf o = 0) (valQ ops aQ) a →
    wpQuiet P ops C (fun a' => a' = aQ) (quietL ops k) a →
    ∀ i o, k ≤ i → ops[i]? = some o → kindOf o = 0 → ∃ ai v, Fr ops a0 (fun j => j < i ∧ ∃ o, ops[j]? = some o ∧ kindOf o = 0) (valQ ops aQ) ai ∧ YieldsIn P ops C o v ai ∧ (∀ s, o.dst = some s → s < a0.tmps.size → v = valQ ops aQ i) := by
  intro d
  induction d with
  | zero =>
    intro k a hk _ _ i o hki hi _
    have := (Array.getElem?_eq_some_iff.1 hi).1
    omega
  | succ d ih =>
    intro k a hk hF hq i o hki hi ho
    have hks : k < ops.size := by omega
    obtain ⟨ok, hok⟩ : ∃ ok, ops[k]? = some ok := ⟨ops[k], Array.getElem?_eq_getElem hks⟩
    rw [quietL_step hok] at hq
    by_cases hz : kindOf ok = 0
    · rw [if_pos hz, List.singleton_append] at hq
      have hyk : ∃ v, YieldsIn P ops C ok v a ∧ wpQuiet P ops C (fun a' => a' = aQ) (quietL ops (k + 1)) (a.put ok.dst v) := by
        unfold wpQuiet at hq
        split at hq
        · rename_i hw
          obtain ⟨v, h1, h2⟩ := hq
          exact ⟨v, .inl ⟨hw, h1⟩, h2⟩
        · rename_i hw
          exact ⟨undef, .inr ⟨by simpa using hw, rfl⟩, hq⟩
      obtain ⟨v, hy, hn⟩ := hyk
      have hv : ∀ s, ok.dst = some s → s < a0.tmps.size → v = valQ ops aQ k := fun s hs hlt => by
        obtain ⟨_, _, h3⟩ := quiet_keeps _ _ hn
        have h4 := h3 s fun o' ho' hd => by
          unfold quietL at ho'
          have hm := (List.mem_filter.1 ho').1
          obtain ⟨j, hj⟩ := List.mem_iff_getElem?.1 hm
          rw [List.getElem?_drop] at hj
          have := hO (k + 1 + j) k o' ok s (by simpa using hj) hok hd hs
          omega
        have hlt' : s < a.tmps.size := by rw [hF.size]; exact hlt
        rw [hs] at h4
        simp only [Act.put] at h4
        rw [Array.getElem?_setIfInBounds_self_of_lt hlt'] at h4
        unfold valQ
        simp [hok, hs, ← h4]
      have hput : a.put ok.dst v = a.put ok.dst (valQ ops aQ k) := by
        cases hd : ok.dst with
        | none => rfl
        | some s =>
          by_cases hlt : s < a0.tmps.size
          · rw [hv s hd hlt]
          · have hle : a.tmps.size ≤ s := by rw [hF.size]; exact Nat.not_lt.1 hlt
            simp only [Act.put]
            rw [Array.setIfInBounds_eq_of_size_le hle, Array.setIfInBounds_eq_of_size_le hle]
      by_cases hik : i = k
      · subst hik
        rw [hok] at hi; cases hi
        exact ⟨a, v, hF, hy, hv⟩
      · rw [hput] at hn
        exact ih (k + 1) _ (by omega) ((hF.put hO hok).congr (fun j _ => ⟨fun h => h.elim (fun h => ⟨by omega, h.2⟩) (fun h => by subst h; exact ⟨by omega, ok, hok, hz⟩), fun h => (Nat.lt_succ_iff_lt_or_eq.1 h.1).elim (fun h' => .inl ⟨h', h.2⟩) .inr⟩) (fun _ _ => rfl)) hn i o (by omega) hi ho
    · rw [if_neg hz, List.nil_append] at hq
      have hik : i ≠ k := fun e => by subst e; rw [hok] at hi; cases hi; exact hz ho
      exact ih (k + 1) a (by omega) (hF.congr (fun j _ => ⟨fun h => ⟨by omega, h.2⟩, fun h => ⟨by
        rcases Nat.lt_succ_iff_lt_or_eq.1 h.1 with h' | rfl
        · exact h'
        · obtain ⟨o', ho', hz'⟩ := h.2
          rw [hok] at ho'; cases ho'; exact absurd hz' hz, h.2⟩⟩) (fun _ _ => rfl)) hq i o (by omega) hi ho

theorem eval_same {a a' : Act} {x : Operand} (h : ∀ s, x = .tmp s → a.tmps[s]? = a'.tmps[s]?) : a.eval x = a'.eval x := by
  cases x with
  | tmp s => simp [Act.eval, h s rfl]
  | _ => rfl
theorem exec_same {a a' : Act} (o : Oper) (hs : ∀ cs b, o.op ≠ .select cs b) (h : ∀ s ∈ o.looksAt ops, a.tmps[s]? = a'.tmps[s]?) : execOp a.eval o = execOp a'.eval o :=
  execOp_congr o hs fun x hx => eval_same fun s e => h s (by subst e; exact List.mem_append_left _ (List.mem_filterMap.2 ⟨.tmp s, by simpa using hx, rfl⟩))
theorem wanted_same {a a' : Act} (o : Oper) (h : ∀ s ∈ o.looksAt ops, a.tmps[s]? = a'.tmps[s]?) : Region.wanted o (yielded ops a.tmps) = Region.wanted o (yielded ops a'.tmps) := by
  unfold Region.wanted
  cases hg : o.guard with
  | none => rfl
  | some gw =>
    obtain ⟨g, want⟩ := gw
    have hy : yielded ops a.tmps g = yielded ops a'.tmps g := by
      unfold yielded
      cases ht : (ops[g]?).bind (·.dst) with
      | none => rfl
      | some t => simp only [Option.bind_some]; rw [h t (by simp [Oper.looksAt, hg, ht])]
    simp only [hy]
end
end Go.Proofs.YtnjeoeekidnffaaGreat
/- The law itself: a region that draws its order, whose operations read, call functions that only make new memory, make new variables, and fill them. -/
namespace Go.Proofs.YtnjeoeekidnffaaGreat
open Go.RowKit
set_option maxRecDepth 100000

section
variable {P : Program} {ops : Array Oper} {Q : Exit → Act → World → Prop}

/-- What is said of the new variables: of each its operation's number, type, first content, last content, and the number of the store that fills it. -/
structure Made where
  op : Nat
  type : TypeId
  zero : Array Value
  full : Array Value
  store : Nat

structure MadeOk (P : Program) (ops : Array Oper) (aQ : Act) (ms : List Made) : Prop where
  alloc : ∀ m ∈ ms, ∃ o, ops[m.op]? = some o ∧ o.guard = none ∧ kindOf o = 1 ∧ ∀ (ρ : Operand → Value) (w : World), (execOp ρ o).run P w = .ok (.value (.pointer (some ⟨w.heap.size, 0, none⟩))) (w.alloc (.cells m.zero m.type))
  store : ∀ m ∈ ms, ∃ (o : Oper) (d : Tmp) (x : Operand), ops[m.store]? = some o ∧ o.guard = none ∧ o.dst = none ∧ kindOf o = 2 ∧ (ops[m.op]?).bind (·.dst) = some d ∧ d < aQ.tmps.size ∧ .tmp d ∈ o.op.operands ∧ x ∈ o.op.operands ∧ (∀ m' ∈ ms, (ops[m'.op]?).bind (·.dst) = some d → m' = m) ∧
      (∀ e, x = .tmp e → ∀ m' ∈ ms, (ops[m'.op]?).bind (·.dst) ≠ some e) ∧ aQ.eval x = .agg m.full ∧
      ∀ (ρ : Operand → Value) (b : Nat) (w : World), ρ (.tmp d) = .pointer (some ⟨b, 0, none⟩) → ρ x = .agg m.full → w.heap[b]? = some (.cells m.zero m.type) → (execOp ρ o).run P w = .ok .skip (w.setRow b m.full)
  allAlloc : ∀ i o, ops[i]? = some o → kindOf o = 1 → ∃ m ∈ ms, m.op = i
  allStore : ∀ i o, ops[i]? = some o → kindOf o = 2 → ∃ m ∈ ms, m.store = i
  onceA : ∀ m ∈ ms, ∀ m' ∈ ms, m.op = m'.op → m = m'
  onceS : ∀ m ∈ ms, ∀ m' ∈ ms, m.store = m'.store → m = m'

/-- Where the new variables lie. -/
structure Lies (w0 : World) (ms : List Made) (L : Nat → Prop) (full : Made → Prop) (V : Nat → Value) (w : World) : Prop where
  here : ∀ m ∈ ms, L m.op → ∃ b, V m.op = .pointer (some ⟨b, 0, none⟩) ∧ w0.heap.size ≤ b ∧ b < w.heap.size ∧ (full m → w.heap[b]? = some (.cells m.full m.type)) ∧ (¬ full m → w.heap[b]? = some (.cells m.zero m.type))
  apart : ∀ m ∈ ms, ∀ m' ∈ ms, L m.op → L m'.op → m ≠ m' → V m.op ≠ V m'.op

/-- Every operation waits for earlier ones alone. -/
def fwdB (ops : Array Oper) : Bool := (List.range ops.size).all fun i => match ops[i]? with | some o => o.after.all fun e => !Region.binds .any e || decide (e.on < i) | none => true
theorem fwdB_spec (h : fwdB ops = true) {i : Nat} {o : Oper} (hi : ops[i]? = some o) {e : Edge} (he : e ∈ o.after) (hb : Region.binds .any e = true) : e.on < i := by
  have h1 := List.all_eq_true.1 h i (List.mem_range.2 (Array.getElem?_eq_some_iff.1 hi).1)
  simp only [hi] at h1
  have h2 := Array.all_eq_true_iff_forall_mem.1 h1 e he
  simpa [hb] using h2

/-- Which operations have come up. -/
abbrev up (listed : Array Bool) (j : Nat) : Prop := listed.getD j false = true
theorem up_set {listed : Array Bool} {i : Nat} (hi : i < listed.size) (j : Nat) : up (listed.setIfInBounds i true) j ↔ (up listed j ∨ j = i) := by
  unfold up
  by_cases h : j = i
  · subst h; simp [hi]
  · have h' : i ≠ j := fun e => h e.symm
    simp [Array.getElem?_setIfInBounds_ne h', h]
theorem not_up {listed : Array Bool} {i : Nat} (h : listed.getD i true = false) : ¬ up listed i := fun h' => by
  unfold up at h'
  rcases Nat.lt_or_ge i listed.size with hl | hl
  · simp [hl] at h h'; rw [h] at h'; cases h'
  · simp [Array.getElem?_eq_none hl] at h

theorem setRow_other (w : World) (b k : Nat) (cs : Array Value) (h : k ≠ b) : (w.setRow b cs).heap[k]? = w.heap[k]? := by
  simp only [World.setRow, Array.getElem?_modify]
  rw [if_neg (fun e => h e.symm)]
theorem setRow_size (w : World) (b : Nat) (cs : Array Value) : (w.setRow b cs).heap.size = w.heap.size := by simp [World.setRow]
theorem below_setRow {B : Nat} {w0 w : World} (h : Below B w0 w) {b : Nat} (hb : B ≤ b) (cs : Array Value) : Below B w0 (w.setRow b cs) :=
  ⟨h.os, h.tape, h.output, by rw [setRow_size]; exact h.size, fun k hk => by rw [setRow_other _ _ _ _ (by omega)]; exact h.block k hk⟩

structure J (ops : Array Oper) (w0 : World) (a0 aQ : Act) (ms : List Made) (listed : Array Bool) (a : Act) (w : World) : Prop where
  size : listed.size = ops.size
  closed : ∀ j o, ops[j]? = some o → up listed j → ∀ e ∈ o.after, Region.binds .any e = true → up listed e.on
  below : Below w0.heap.size w0 w
  rest : ∃ V : Nat → Value, (∀ i o, ops[i]? = some o → kindOf o = 0 → V i = valQ ops aQ i) ∧ Fr ops a0 (up listed) V a ∧ Lies w0 ms (up listed) (fun m => up listed m.store) V w

theorem closed_set {listed : Array Bool} (hsz : listed.size = ops.size) (hc : ∀ j o, ops[j]? = some o → up listed j → ∀ e ∈ o.after, Region.binds .any e = true → up listed e.on) {i : Nat} (hi : i ∈ Region.ready .any ops listed) :
    ∀ j o, ops[j]? = some o → up (listed.setIfInBounds i true) j → ∀ e ∈ o.after, Region.binds .any e = true → up (listed.setIfInBounds i true) e.on := by
  obtain ⟨_, oi, hoi, hall⟩ := mem_ready' hi
  have hlt : i < listed.size := by rw [hsz]; exact (Array.getElem?_eq_some_iff.1 hoi).1
  intro j o hj hu e he hb
  rw [up_set hlt] at hu ⊢
  rcases hu with hu | rfl
  · exact .inl (hc j o hj hu e he hb)
  · rw [hoi] at hj; cases hj
    exact .inl (hall e he hb)

theorem look_up (hB : makeB ops = true) {listed : Array Bool} (hc : ∀ j o, ops[j]? = some o → up listed j → ∀ e ∈ o.after, Region.binds .any e = true → up listed e.on) {i : Nat} {o : Oper} (hi : i ∈ Region.ready .any ops listed) (ho : ops[i]? = some o)
    {j : Nat} {oj : Oper} {s : Tmp} (hj : ops[j]? = some oj) (hd : oj.dst = some s) (hs : s ∈ o.looksAt ops) (hij : i ≠ j) :
    (kindOf o = 0 → kindOf oj = 0 ∧ (up listed j ↔ j < i)) ∧ (kindOf o ≠ 0 → up listed j) := by
  obtain ⟨hun, oi, hoi, hall⟩ := mem_ready' hi
  rw [ho] at hoi; cases hoi
  have hp := makeB_pair hB ho hj hij
  simp only [pairB, hd, Bool.and_eq_true, Bool.or_eq_true, Bool.not_eq_true', List.contains_eq_mem, decide_eq_false_iff_not] at hp
  have hp2 := hp.2.resolve_left (fun h => h hs)
  have dep : ∀ k l, waitsB ops k l = true → k = i → up listed l := fun k l h e => by
    obtain ⟨o', ho', e', he', hb, hon⟩ := waitsB_spec h
    subst e
    rw [ho] at ho'; cases ho'
    rw [← hon]; exact hall e' he' hb
  refine ⟨fun hz => ?_, fun hz => ?_⟩
  · rw [if_pos hz] at hp2
    simp only [Bool.and_eq_true, beq_iff_eq] at hp2
    refine ⟨hp2.1, ?_⟩
    by_cases hji : j < i
    · rw [if_pos hji] at hp2
      exact ⟨fun _ => hji, fun _ => dep _ _ hp2.2 rfl⟩
    · rw [if_neg hji] at hp2
      refine ⟨fun hu => ?_, fun h => absurd h hji⟩
      obtain ⟨o', ho', e', he', hb, hon⟩ := waitsB_spec hp2.2
      have := hc j o' ho' hu e' he' hb
      rw [hon] at this
      exact absurd this (not_up hun)
  · rw [if_neg hz] at hp2
    simp only [Bool.and_eq_true, decide_eq_true_eq] at hp2
    exact dep _ _ hp2.2 rfl
end
end Go.Proofs.YtnjeoeekidnffaaGreat
/- The law's steps, and the law: a region that draws its order, with new variables that it fills. -/
namespace Go.Proofs.YtnjeoeekidnffaaGreat
open Go.RowKit
set_option maxRecDepth 100000

section
variable {P : Program} {ops : Array Oper} {Q : Exit → Act → World → Prop} {w0 : World} {a0 aQ : Act} {ms : List Made} {listed : Array Bool} {a : Act} {w : World} {i : Nat} {o : Oper}

theorem getD_rep (m j : Nat) : (Array.replicate m false).getD j false = false := by
  rcases Nat.lt_or_ge j m with h | h
  · simp [h]
  · simp [h]

theorem put_same {s : Nat → Value} {v : Value} (hF : Fr ops a0 (up listed) s a) (hv : ∀ d, o.dst = some d → d < a0.tmps.size → v = s i) : a.put o.dst v = a.put o.dst (s i) := by
  cases hd : o.dst with
  | none => rfl
  | some d =>
    by_cases hlt : d < a0.tmps.size
    · rw [hv d hd hlt]
    · have hle : a.tmps.size ≤ d := by rw [hF.size]; exact Nat.not_lt.1 hlt
      simp only [Act.put]
      rw [Array.setIfInBounds_eq_of_size_le hle, Array.setIfInBounds_eq_of_size_le hle]

theorem step_quiet' (hB : makeB ops = true) (hq : ∀ w1 : Ext w0, wpQuiet P ops (cls w1.on) (fun a' => a' = aQ) (quietL ops 0) a0)
    (hno : ∀ m ∈ ms, m.op ≠ i ∧ m.store ≠ i) (hJ : J ops w0 a0 aQ ms listed a w) (hi : i ∈ Region.ready .any ops listed) (ho : ops[i]? = some o) (hk : kindOf o = 0) :
    wpOp P ops Q i (J ops w0 a0 aQ ms (listed.setIfInBounds i true)) a w := by
  obtain ⟨hun, _⟩ := mem_ready' hi
  have hlt : i < listed.size := by rw [hJ.size]; exact (Array.getElem?_eq_some_iff.1 ho).1
  obtain ⟨V, hV, hF, hL⟩ := hJ.rest
  have hO := makeB_once hB
  obtain ⟨ai, v, hFi, hy, hv⟩ := quiet_each hO (C := cls w) (a0 := a0) (aQ := aQ) (P := P) _ 0 a0 rfl ((Fr.start a0 (valQ ops aQ)).congr (fun j _ => ⟨fun h => h.elim, fun h => absurd h.1 (Nat.not_lt_zero _)⟩) (fun _ h => h.elim)) (hq ⟨w, hJ.below⟩) i o (Nat.zero_le _) ho hk
  have hFi' : Fr ops a0 (fun j => j < i ∧ ∃ o, ops[j]? = some o ∧ kindOf o = 0) V ai := hFi.congr (fun _ _ => Iff.rfl) (fun j h => by obtain ⟨_, o', ho', hz⟩ := h; exact (hV j o' ho' hz).symm)
  have same : ∀ s ∈ o.looksAt ops, a.tmps[s]? = ai.tmps[s]? := fun s hs => hF.agree hFi' fun j oj hj hd => by
    by_cases hij : i = j
    · subst hij
      exact ⟨fun h => absurd h (not_up hun), fun h => absurd h.1 (Nat.lt_irrefl _)⟩
    · obtain ⟨h1, _⟩ := look_up hB hJ.closed hi ho hj hd hs hij
      obtain ⟨hz, hiff⟩ := h1 hk
      exact ⟨fun h => ⟨hiff.1 h, oj, hj, hz⟩, fun h => hiff.2 h.1⟩
  have hsel : ∀ cs b, o.op ≠ .select cs b := by
    have h0 : Region.noSelect ops = true := by simp only [makeB, Bool.and_eq_true] at hB; exact hB.1
    exact fun cs b => Region.noSelect_spec h0 i o cs b ho
  have hvi : valQ ops aQ i = V i := (hV i o ho hk).symm
  have fin : ∀ w', cls w w' → J ops w0 a0 aQ ms (listed.setIfInBounds i true) (a.put o.dst v) w' := fun w' hw' => by
    obtain ⟨g, rfl⟩ := hw'
    refine ⟨by simp [hJ.size], closed_set hJ.size hJ.closed hi, hJ.below.trans (g.below.mono hJ.below.size), V, hV, ?_, ?_⟩
    · rw [put_same (s := V) hF (fun d hd hl => (hv d hd hl).trans hvi)]
      exact (hF.put hO ho).congr (fun j _ => (up_set hlt j).symm) (fun _ _ => rfl)
    · refine ⟨fun m hm hu => ?_, fun m hm m' hm' hu hu' hne => ?_⟩
      · have hu' := ((up_set hlt _).1 hu).resolve_right (hno m hm).1
        obtain ⟨b, hb, h1, h2, h3, h4⟩ := hL.here m hm hu'
        refine ⟨b, hb, h1, Nat.lt_of_lt_of_le h2 g.below.size, fun hf => ?_, fun hf => ?_⟩
        · exact g.block (h3 (((up_set hlt _).1 hf).resolve_right (hno m hm).2))
        · exact g.block (h4 fun hf' => hf ((up_set hlt _).2 (.inl hf')))
      · exact hL.apart m hm m' hm' (((up_set hlt _).1 hu).resolve_right (hno m hm).1) (((up_set hlt _).1 hu').resolve_right (hno m' hm').1) hne
  unfold wpOp
  simp only [ho]
  rw [wanted_same o same]
  have hw0 : cls w w := ⟨⟨w, Below.refl _ _⟩, rfl⟩
  rcases hy with ⟨hw, hqa⟩ | ⟨hw, rfl⟩
  · rw [if_pos hw]
    refine .inl (Oper.wp_of_quiet (C := cls w) (K := fun a' => a' = a.put o.dst v) hw0 (fun a' w' hw' e => by subst e; exact fin w' hw') ⟨v, fun w' hw' => ?_, rfl⟩)
    have := hqa w' hw'
    unfold Oper.quietAt at this ⊢
    rwa [exec_same o hsel same]
  · rw [if_neg (by rw [hw]; exact Bool.false_ne_true)]
    exact fin w hw0

theorem step_quiet (hB : makeB ops = true) (hq : ∀ w1 : Ext w0, wpQuiet P ops (cls w1.on) (fun a' => a' = aQ) (quietL ops 0) a0)
    (hms : MadeOk P ops aQ ms) (hJ : J ops w0 a0 aQ ms listed a w) (hi : i ∈ Region.ready .any ops listed) (ho : ops[i]? = some o) (hk : kindOf o = 0) :
    wpOp P ops Q i (J ops w0 a0 aQ ms (listed.setIfInBounds i true)) a w :=
  step_quiet' hB hq (fun m hm => by
    obtain ⟨oa, hoa, _, ka, _⟩ := hms.alloc m hm
    obtain ⟨os, _, _, hos, _, _, ks, _⟩ := hms.store m hm
    refine ⟨fun e => ?_, fun e => ?_⟩
    · rw [e, ho] at hoa; cases hoa; omega
    · rw [e, ho] at hos; cases hos; omega) hJ hi ho hk

theorem step_alloc (hB : makeB ops = true) (hms : MadeOk P ops aQ ms) (hJ : J ops w0 a0 aQ ms listed a w) (hi : i ∈ Region.ready .any ops listed) (ho : ops[i]? = some o) (hk : kindOf o = 1) :
    wpOp P ops Q i (J ops w0 a0 aQ ms (listed.setIfInBounds i true)) a w := by
  obtain ⟨hun, _⟩ := mem_ready' hi
  have hlt : i < listed.size := by rw [hJ.size]; exact (Array.getElem?_eq_some_iff.1 ho).1
  obtain ⟨V, hV, hF, hL⟩ := hJ.rest
  have hO := makeB_once hB
  obtain ⟨m, hm, rfl⟩ := hms.allAlloc i o ho hk
  obtain ⟨o', ho', hg, _, hrun⟩ := hms.alloc m hm
  rw [ho] at ho'; cases ho'
  have hst : m.store ≠ m.op := fun e => by
    obtain ⟨os, _, _, hos, _, _, ks, _⟩ := hms.store m hm
    rw [e, ho] at hos; cases hos; omega
  have hstu : ¬ up listed m.store := fun h => by
    obtain ⟨os, d, _, hos, _, _, ks, hd, _, hlook, _⟩ := hms.store m hm
    have hdo : o.dst = some d := by simpa [ho] using hd
    have hp := makeB_pair hB hos ho hst
    simp only [pairB, hdo, Bool.and_eq_true, Bool.or_eq_true, Bool.not_eq_true', List.contains_eq_mem, decide_eq_false_iff_not] at hp
    have hin : d ∈ os.looksAt ops := List.mem_append_left _ (List.mem_filterMap.2 ⟨.tmp d, by simpa using hlook, rfl⟩)
    have hp2 := hp.2.resolve_left (fun h => h hin)
    rw [if_neg (by omega)] at hp2
    simp only [Bool.and_eq_true] at hp2
    obtain ⟨o2, ho2, e2, he2, hb2, hon⟩ := waitsB_spec hp2.2
    have := hJ.closed m.store o2 ho2 h e2 he2 hb2
    rw [hon] at this
    exact absurd this (not_up hun)
  have hne : ∀ m' ∈ ms, m' ≠ m → m'.op ≠ m.op ∧ m'.store ≠ m.op := fun m' hm' hd => ⟨fun e => hd (hms.onceA m' hm' m hm e), fun e => by
    obtain ⟨os, _, _, hos, _, _, ks, _⟩ := hms.store m' hm'
    rw [e, ho] at hos; cases hos; omega⟩
  unfold wpOp
  simp only [ho]
  have hw : Region.wanted o (yielded ops a.tmps) = true := by simp [Region.wanted, hg]
  rw [if_pos hw]
  refine .inl ?_
  unfold Oper.wp
  rw [hrun]
  simp only [Oper.upon]
  let V' : Nat → Value := fun j => if j = m.op then .pointer (some ⟨w.heap.size, 0, none⟩) else V j
  have hV'i : V' m.op = .pointer (some ⟨w.heap.size, 0, none⟩) := by simp [V']
  have hV'o : ∀ j, j ≠ m.op → V' j = V j := fun j h => by simp [V', h]
  refine ⟨by simp [hJ.size], closed_set hJ.size hJ.closed hi, hJ.below.alloc hJ.below.size _, V', fun j oj hj hz => ?_, ?_, ?_, ?_⟩
  · rw [hV'o j fun e => by subst e; rw [ho] at hj; cases hj; omega]
    exact hV j oj hj hz
  · have hF' : Fr ops a0 (up listed) V' a := hF.congr (fun _ _ => Iff.rfl) (fun j hj => (hV'o j fun e => by subst e; exact absurd hj (not_up hun)).symm)
    have := hF'.put hO ho
    rw [hV'i] at this
    exact this.congr (fun j _ => (up_set hlt j).symm) (fun _ _ => rfl)
  · intro m' hm' hu
    by_cases he : m' = m
    · subst he
      refine ⟨w.heap.size, hV'i, hJ.below.size, by simp, fun hf => absurd (((up_set hlt _).1 hf).resolve_right hst) hstu, fun _ => heap_alloc_new _ _⟩
    · obtain ⟨n1, n2⟩ := hne m' hm' he
      obtain ⟨b, hb, h1, h2, h3, h4⟩ := hL.here m' hm' (((up_set hlt _).1 hu).resolve_right n1)
      refine ⟨b, by rw [hV'o _ n1]; exact hb, h1, by simp; omega, fun hf => ?_, fun hf => ?_⟩
      · rw [Below.heap_alloc _ _ _ h2]; exact h3 (((up_set hlt _).1 hf).resolve_right n2)
      · rw [Below.heap_alloc _ _ _ h2]; exact h4 fun hf' => hf ((up_set hlt _).2 (.inl hf'))
  · intro m1 hm1 m2 hm2 hu1 hu2 hd
    by_cases e1 : m1 = m
    · subst e1
      have e2 : m2 ≠ m1 := fun e => hd e.symm
      obtain ⟨n1, _⟩ := hne m2 hm2 e2
      obtain ⟨b, hb, _, h2, _⟩ := hL.here m2 hm2 (((up_set hlt _).1 hu2).resolve_right n1)
      rw [hV'i, hV'o _ n1, hb]
      intro e
      simp only [Value.pointer.injEq, Option.some.injEq, Addr.mk.injEq] at e
      omega
    · obtain ⟨n1, _⟩ := hne m1 hm1 e1
      have hu1' := ((up_set hlt _).1 hu1).resolve_right n1
      by_cases e2 : m2 = m
      · subst e2
        obtain ⟨b, hb, _, h2, _⟩ := hL.here m1 hm1 hu1'
        rw [hV'i, hV'o _ n1, hb]
        intro e
        simp only [Value.pointer.injEq, Option.some.injEq, Addr.mk.injEq] at e
        omega
      · obtain ⟨n2, _⟩ := hne m2 hm2 e2
        rw [hV'o _ n1, hV'o _ n2]
        exact hL.apart m1 hm1 m2 hm2 hu1' (((up_set hlt _).1 hu2).resolve_right n2) hd

theorem aQ_fr (_hB : makeB ops = true) (hq : wpQuiet P ops (cls w0) (fun a' => a' = aQ) (quietL ops 0) a0) : Fr ops a0 (fun j => ∃ o, ops[j]? = some o ∧ kindOf o = 0) (valQ ops aQ) aQ := by
  obtain ⟨h1, h2, h3⟩ := quiet_keeps _ _ hq
  refine ⟨h1.symm, h2.symm, fun j o s hj hs _ hlt => ?_, fun s hs => (h3 s fun o ho hd => ?_).symm⟩
  · have hlt' : s < aQ.tmps.size := by rw [← h2]; exact hlt
    unfold valQ
    simp [hj, hs, hlt']
  · unfold quietL at ho
    obtain ⟨hm, hz⟩ := List.mem_filter.1 ho
    obtain ⟨j, hj⟩ := List.mem_iff_getElem?.1 hm
    rw [List.drop_zero] at hj
    exact hs j o (by simpa using hj) ⟨o, by simpa using hj, by simpa using hz⟩ hd

theorem step_store (hB : makeB ops = true) (hq : wpQuiet P ops (cls w0) (fun a' => a' = aQ) (quietL ops 0) a0) (hms : MadeOk P ops aQ ms) (hJ : J ops w0 a0 aQ ms listed a w) (hi : i ∈ Region.ready .any ops listed) (ho : ops[i]? = some o) (hk : kindOf o = 2) :
    wpOp P ops Q i (J ops w0 a0 aQ ms (listed.setIfInBounds i true)) a w := by
  obtain ⟨hun, _⟩ := mem_ready' hi
  have hlt : i < listed.size := by rw [hJ.size]; exact (Array.getElem?_eq_some_iff.1 ho).1
  obtain ⟨V, hV, hF, hL⟩ := hJ.rest
  have hO := makeB_once hB
  obtain ⟨m, hm, rfl⟩ := hms.allStore i o ho hk
  obtain ⟨o', d, x, ho', hg, hdst, _, hd, hdlt, hlook, hx, _, hxn, hxv, hrun⟩ := hms.store m hm
  rw [ho] at ho'; cases ho'
  obtain ⟨oa, hoa, _, ka, _⟩ := hms.alloc m hm
  have hda : oa.dst = some d := by simpa [hoa] using hd
  have looks : ∀ s, .tmp s ∈ o.op.operands → s ∈ o.looksAt ops := fun s h => List.mem_append_left _ (List.mem_filterMap.2 ⟨.tmp s, by simpa using h, rfl⟩)
  have hne : m.store ≠ m.op := fun e => by rw [e, hoa] at ho; cases ho; omega
  have hup : up listed m.op := (look_up hB hJ.closed hi ho hoa hda (looks d hlook) hne).2 (by omega)
  obtain ⟨b, hb, hb1, hb2, _, hb4⟩ := hL.here m hm hup
  have hFQ := aQ_fr hB hq
  have hsize : d < a0.tmps.size := by rw [← hFQ.size]; exact hdlt
  have e1 : a.eval (.tmp d) = .pointer (some ⟨b, 0, none⟩) := by
    have := hF.done m.op oa d hoa hda hup hsize
    simp [Act.eval, this, hb]
  have hFQ' : Fr ops a0 (fun j => ∃ o, ops[j]? = some o ∧ kindOf o = 0) V aQ := hFQ.congr (fun _ _ => Iff.rfl) (fun j h => by obtain ⟨o', ho', hz⟩ := h; exact (hV j o' ho' hz).symm)
  have e2 : a.eval x = .agg m.full := by
    rw [← hxv]
    refine eval_same fun s hs => hF.agree hFQ' fun j oj hj hdj => ?_
    subst hs
    have hji : m.store ≠ j := fun e => by subst e; rw [ho] at hj; cases hj; rw [hdst] at hdj; cases hdj
    have hu := (look_up hB hJ.closed hi ho hj hdj (looks s hx) hji).2 (by omega)
    refine ⟨fun _ => ⟨oj, hj, ?_⟩, fun _ => hu⟩
    have hk1 : kindOf oj ≠ 1 := fun hk1 => by
      obtain ⟨m', hm', e⟩ := hms.allAlloc j oj hj hk1
      exact hxn s rfl m' hm' (by rw [e]; simp [hj, hdj])
    have hk2 : kindOf oj ≠ 2 := fun hk2 => by
      obtain ⟨m', hm', e⟩ := hms.allStore j oj hj hk2
      obtain ⟨os, _, _, hos, _, hds, _⟩ := hms.store m' hm'
      rw [e, hj] at hos; cases hos
      rw [hds] at hdj; cases hdj
    have h3 : kindOf oj = 0 ∨ kindOf oj = 1 ∨ kindOf oj = 2 := by
      unfold kindOf; split <;> simp
    omega
  have hzero : w.heap[b]? = some (.cells m.zero m.type) := hb4 (not_up hun)
  have hno : ∀ m' ∈ ms, m'.op ≠ m.store := fun m' hm' e => by
    obtain ⟨oa', hoa', _, ka', _⟩ := hms.alloc m' hm'
    rw [e, ho] at hoa'; cases hoa'; omega
  unfold wpOp
  simp only [ho]
  have hw : Region.wanted o (yielded ops a.tmps) = true := by simp [Region.wanted, hg]
  rw [if_pos hw]
  refine .inl ?_
  unfold Oper.wp
  rw [hrun a.eval b w e1 e2 hzero]
  simp only [Oper.upon]
  refine ⟨by simp [hJ.size], closed_set hJ.size hJ.closed hi, below_setRow hJ.below hb1 _, V, hV, ?_, ?_, ?_⟩
  · rw [put_same (s := V) (i := m.store) hF (fun d' hd' _ => by rw [hdst] at hd'; cases hd')]
    exact (hF.put hO ho).congr (fun j _ => (up_set hlt j).symm) (fun _ _ => rfl)
  · intro m' hm' hu
    have hu' := ((up_set hlt _).1 hu).resolve_right (hno m' hm')
    by_cases he : m' = m
    · subst he
      exact ⟨b, hb, hb1, by rw [setRow_size]; exact hb2, fun _ => setRow_heap _ _ _ _ _ _ hzero, fun hf => absurd ((up_set hlt _).2 (.inr rfl)) hf⟩
    · obtain ⟨b', hb', h1, h2, h3, h4⟩ := hL.here m' hm' hu'
      have hbb : b' ≠ b := fun e => hL.apart m' hm' m hm hu' hup he (by rw [hb', hb, e])
      refine ⟨b', hb', h1, by rw [setRow_size]; exact h2, fun hf => ?_, fun hf => ?_⟩
      · rw [setRow_other _ _ _ _ hbb]
        exact h3 (((up_set hlt _).1 hf).resolve_right fun e => he (hms.onceS m' hm' m hm e))
      · rw [setRow_other _ _ _ _ hbb]
        exact h4 fun hf' => hf ((up_set hlt _).2 (.inl hf'))
  · intro m1 hm1 m2 hm2 hu1 hu2 hd'
    exact hL.apart m1 hm1 m2 hm2 (((up_set hlt _).1 hu1).resolve_right (hno m1 hm1)) (((up_set hlt _).1 hu2).resolve_right (hno m2 hm2)) hd'

/-- The frame at the end: the quiet operations', and where the new variables lie. -/
def endFrame (ops : Array Oper) (V : Nat → Value) (ms : List Made) (aQ : Act) : Act := ms.foldl (fun a m => a.put ((ops[m.op]?).bind (·.dst)) (V m.op)) aQ

theorem endFrame_fr (hO : Once ops) {V : Nat → Value} {L : Nat → Prop} (hF : Fr ops a0 L V a) : ∀ (l : List Made), (∀ m ∈ l, ∃ o, ops[m.op]? = some o) → ∀ {L : Nat → Prop} {a : Act}, Fr ops a0 L V a → Fr ops a0 (fun j => L j ∨ ∃ m ∈ l, m.op = j) V (endFrame ops V l a)
  | [], _, _, _, h => h.congr (fun _ _ => by simp) (fun _ _ => rfl)
  | m :: l, hl, _, _, h => by
    obtain ⟨o, ho⟩ := hl m (by simp)
    have h1 := endFrame_fr hO hF l (fun m' hm' => hl m' (by simp [hm'])) (h.put hO ho)
    have e : (ops[m.op]?).bind (·.dst) = o.dst := by simp [ho]
    unfold endFrame at h1 ⊢
    rw [List.foldl_cons, e]
    refine h1.congr (fun j _ => ⟨fun h => ?_, fun h => ?_⟩) (fun _ _ => rfl)
    · rcases h with h | ⟨m', hm', e'⟩
      · rcases h with h | h
        · exact .inl h
        · exact .inr ⟨m, by simp, h.symm⟩
      · exact .inr ⟨m', by simp [hm'], e'⟩
    · rcases h with h | ⟨m', hm', e'⟩
      · exact .inl (.inl h)
      · rcases List.mem_cons.1 hm' with rfl | hm'
        · exact .inl (.inr e'.symm)
        · exact .inr ⟨m', hm', e'⟩

/-- THE LAW. -/
theorem wp_region_make {id : Nat} (hm : P.follows .mixedOrders = true) (hB : makeB ops = true) (hfwd : fwdB ops = true)
    (hms : MadeOk P ops aQ ms) (hq : ∀ w1 : Ext w.drew, wpQuiet P ops (cls w1.on) (fun a' => a' = aQ) (quietL ops 0) a0)
    (h : ∀ (V : Nat → Value) (w' : World), Below w.heap.size w w' → Lies w ms (fun _ => True) (fun _ => True) V w' → Q .normal (endFrame ops V ms aQ) w') :
    (Code.region id ops true).wp P Q a0 w := by
  refine wp_region_any hm ?_
  have hq0 : wpQuiet P ops (cls w.drew) (fun a' => a' = aQ) (quietL ops 0) a0 := hq ⟨w.drew, Below.refl _ _⟩
  refine wpAny_inv (J := J ops w.drew a0 aQ ms) (fun listed a w' hJ hall => ?_) (fun _ _ _ hJ => hJ.size) (fun listed a w' hJ hr => ?_) (fun listed a w' i o hJ hi ho => ?_) _ _ _ _ ?_ ?_
  · obtain ⟨V, hV, hF, hL⟩ := hJ.rest
    have hO := makeB_once hB
    have hFQ' : Fr ops a0 (fun j => ∃ o, ops[j]? = some o ∧ kindOf o = 0) V aQ := (aQ_fr hB hq0).congr (fun _ _ => Iff.rfl) (fun j h => by obtain ⟨o', ho', hz⟩ := h; exact (hV j o' ho' hz).symm)
    have hE := endFrame_fr hO hFQ' ms (fun m hm => by obtain ⟨o, ho, _⟩ := hms.alloc m hm; exact ⟨o, ho⟩) hFQ'
    have hst : ∀ j, j < ops.size → up listed j := hall
    have e : a = endFrame ops V ms aQ := by
      obtain ⟨t, d⟩ := a
      have hag : ∀ s : Nat, t[s]? = (endFrame ops V ms aQ).tmps[s]? := fun s => hF.agree hE fun j oj hj hdj => by
          refine ⟨fun _ => ?_, fun _ => hst j (Array.getElem?_eq_some_iff.1 hj).1⟩
          have h3 : kindOf oj = 0 ∨ kindOf oj = 1 ∨ kindOf oj = 2 := by unfold kindOf; split <;> simp
          rcases h3 with h3 | h3 | h3
          · exact .inl ⟨oj, hj, h3⟩
          · obtain ⟨m, hm, e⟩ := hms.allAlloc j oj hj h3
            exact .inr ⟨m, hm, e⟩
          · obtain ⟨m', hm', e⟩ := hms.allStore j oj hj h3
            obtain ⟨os, _, _, hos, _, hds, _⟩ := hms.store m' hm'
            rw [e, hj] at hos; cases hos
            rw [hds] at hdj
            cases hdj
      have h1 : t = (endFrame ops V ms aQ).tmps := Array.ext_getElem? hag
      have h2 : d = (endFrame ops V ms aQ).defers := hF.defers.trans hE.defers.symm
      rw [h1, h2]
    rw [e]
    refine h V w' ⟨hJ.below.os, hJ.below.tape, hJ.below.output, hJ.below.size, hJ.below.block⟩ ⟨fun m hm _ => ?_, fun m hm m' hm' _ _ hd => ?_⟩
    · obtain ⟨oa, hoa, _⟩ := hms.alloc m hm
      obtain ⟨os, _, _, hos, _⟩ := hms.store m hm
      obtain ⟨b, hb, h1, h2, h3, _⟩ := hL.here m hm (hst _ (Array.getElem?_eq_some_iff.1 hoa).1)
      exact ⟨b, hb, h1, h2, fun _ => h3 (hst _ (Array.getElem?_eq_some_iff.1 hos).1), fun h => absurd trivial h⟩
    · obtain ⟨oa, hoa, _⟩ := hms.alloc m hm
      obtain ⟨oa', hoa', _⟩ := hms.alloc m' hm'
      exact hL.apart m hm m' hm' (hst _ (Array.getElem?_eq_some_iff.1 hoa).1) (hst _ (Array.getElem?_eq_some_iff.1 hoa').1) hd
  · intro i
    induction i using Nat.strongRecOn with
    | _ i ih =>
      intro hi
      apply Classical.byContradiction
      intro hn
      have hin : i ∈ Region.ready .any ops listed := by
        refine mem_ready.2 ⟨?_, ops[i], Array.getElem?_eq_getElem hi, fun e he hb => ih e.on (fwdB_spec hfwd (Array.getElem?_eq_getElem hi) he hb) (Nat.lt_trans (fwdB_spec hfwd (Array.getElem?_eq_getElem hi) he hb) hi)⟩
        have hl : i < listed.size := by rw [hJ.size]; exact hi
        simp [hl] at hn ⊢
        exact hn
      rw [hr] at hin
      cases hin
  · have h3 : kindOf o = 0 ∨ kindOf o = 1 ∨ kindOf o = 2 := by unfold kindOf; split <;> simp
    rcases h3 with h3 | h3 | h3
    · exact step_quiet hB hq hms hJ hi ho h3
    · exact step_alloc hB hms hJ hi ho h3
    · exact step_store hB hq0 hms hJ hi ho h3
  · simp
  · refine ⟨by simp, fun j o _ hu => ?_, Below.refl _ _, valQ ops aQ, fun _ _ _ _ => rfl, (Fr.start a0 (valQ ops aQ)).congr (fun j hj => ⟨fun h => h.elim, fun hu => ?_⟩) (fun _ h => h.elim), fun m _ hu => ?_, fun m _ _ _ hu _ _ => ?_⟩
    all_goals (unfold up at hu; rw [getD_rep] at hu; cases hu)
end
end Go.Proofs.YtnjeoeekidnffaaGreat
