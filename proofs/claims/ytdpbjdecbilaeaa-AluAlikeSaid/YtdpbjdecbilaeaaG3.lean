/- A law of the model: a region that draws its order, whose first operations read, or call functions that only make new memory, and whose others make new variables and fill them: whatever the order, it comes to one frame, but for where the new variables lie. -/
import Derived.Test.YtdpbjdecbilaeaaG1
import Derived.LoopN
import Derived.Lib.Hide
import Derived.Test.YtdpbjdecbilaeaaG0
import Derived.Deep.LoopGhost
import Derived.ProofKit
import Derived.Laws.IdiomArrays
import Derived.Lib.SmallJoins
namespace Go.Proofs.Ytdpbjdecbilaeaa
open Go.RowKit
set_option maxRecDepth 100000

section
variable {P : Program} {ops : Array Oper} {Q : Exit → Act → World → Prop}

theorem mem_ready' {md : Region.Mode} {listed : Array Bool} {i : Nat} (h : i ∈ Region.ready md ops listed) :
    listed.getD i true = false ∧ ∃ o, ops[i]? = some o ∧ ∀ e ∈ o.after, Region.binds md e = true → listed.getD e.on false = true := mem_ready.1 h

/-- What holds at the start and is handed on by each operation that may come up holds at the end. -/
theorem wpAny_inv {md : Region.Mode} {J : Array Bool → Act → World → Prop} (hend : ∀ listed a w, J listed a w → (∀ i, i < ops.size → listed.getD i false = true) → Q .normal a w)
    (hsz : ∀ listed a w, J listed a w → listed.size = ops.size)
    (hall : ∀ listed a w, J listed a w → Region.ready md ops listed = [] → ∀ i, i < ops.size → listed.getD i false = true)
    (hstep : ∀ listed a w i o, J listed a w → i ∈ Region.ready md ops listed → ops[i]? = some o → wpOp P ops Q i (J (listed.setIfInBounds i true)) a w) :
    ∀ (fuel : Nat) (listed : Array Bool) (a : Act) (w : World), listed.toList.count false ≤ fuel → J listed a w → wpAny P md ops Q fuel listed a w := by
  intro fuel
  induction fuel with
  | zero =>
    intro listed a w hc hJ
    have hr : Region.ready md ops listed = [] := by
      apply List.eq_nil_iff_forall_not_mem.2
      intro i hi
      obtain ⟨h1, o, ho, _⟩ := mem_ready' hi
      have hlt : i < listed.size := by rw [hsz _ _ _ hJ]; exact (Array.getElem?_eq_some_iff.1 ho).1
      have : false ∈ listed.toList := by
        simp [hlt] at h1
        rw [← h1]
        exact Array.getElem_mem_toList hlt
      have := List.count_pos_iff.2 this
      omega
    exact ⟨hr, hend _ _ _ hJ (hall _ _ _ hJ hr)⟩
  | succ fuel ih =>
    intro listed a w hc hJ
    refine ⟨fun hr => hend _ _ _ hJ (hall _ _ _ hJ hr), fun i hi => ?_⟩
    obtain ⟨h1, o, ho, _⟩ := mem_ready' hi
    have hlt : i < listed.size := by rw [hsz _ _ _ hJ]; exact (Array.getElem?_eq_some_iff.1 ho).1
    have hl : listed[i] = false := by simpa [hlt] using h1
    refine wpOp_mono (fun a' w' hJ' => ih _ a' w' ?_ hJ') (hstep _ _ _ i o hJ hi ho)
    have hcnt : (listed.setIfInBounds i true).toList.count false + 1 = listed.toList.count false := by
      rw [Array.toList_setIfInBounds]
      have hl' : listed.toList[i] = false := by simpa using hl
      have hlt' : i < listed.toList.length := by simpa using hlt
      have hp : 0 < List.count false listed.toList := List.count_pos_iff.2 (by rw [← hl']; exact List.getElem_mem hlt')
      rw [List.count_set hlt', hl', if_pos (by rfl), if_neg (by decide)]
      omega
    omega

/-- The frame a is a0 but for what the operations in L have written: V. -/
structure Fr (ops : Array Oper) (a0 : Act) (L : Nat → Prop) (V : Nat → Value) (a : Act) : Prop where
  defers : a.defers = a0.defers
  size : a.tmps.size = a0.tmps.size
  done : ∀ j o s, ops[j]? = some o → o.dst = some s → L j → s < a0.tmps.size → a.tmps[s]? = some (V j)
  rest : ∀ s, (∀ j o, ops[j]? = some o → L j → o.dst ≠ some s) → a.tmps[s]? = a0.tmps[s]?

/-- No two operations write one slot. -/
def Once (ops : Array Oper) : Prop := ∀ (i j : Nat) (oi oj : Oper) (s : Tmp), ops[i]? = some oi → ops[j]? = some oj → oi.dst = some s → oj.dst = some s → i = j

theorem Fr.start (a0 : Act) (V : Nat → Value) : Fr ops a0 (fun _ => False) V a0 := ⟨rfl, rfl, fun _ _ _ _ _ h => h.elim, fun _ _ => rfl⟩
theorem Fr.congr {a0 a : Act} {L L' : Nat → Prop} {V V' : Nat → Value} (h : Fr ops a0 L V a) (hL : ∀ j, j < ops.size → (L j ↔ L' j)) (hV : ∀ j, L j → V j = V' j) : Fr ops a0 L' V' a :=
  ⟨h.defers, h.size, fun j o s hj hs hl hlt => by
      have hjs := (Array.getElem?_eq_some_iff.1 hj).1
      rw [← hV j ((hL j hjs).2 hl)]; exact h.done j o s hj hs ((hL j hjs).2 hl) hlt,
    fun s hs => h.rest s fun j o hj hl => hs j o hj ((hL j (Array.getElem?_eq_some_iff.1 hj).1).1 hl)⟩
theorem Fr.put (hO : Once ops) {a0 a : Act} {L : Nat → Prop} {V : Nat → Value} (h : Fr ops a0 L V a) {i : Nat} {o : Oper} (hi : ops[i]? = some o) :
    Fr ops a0 (fun j => L j ∨ j = i) V (a.put o.dst (V i)) := by
  cases hd : o.dst with
  | none =>
    refine ⟨h.defers, h.size, fun j oj s hj hs hl hlt => ?_, fun s hs => h.rest s fun j oj hj hl => hs j oj hj (Or.inl hl)⟩
    rcases hl with hl | rfl
    · exact h.done j oj s hj hs hl hlt
    · rw [hi] at hj; cases hj; rw [hd] at hs; cases hs
  | some d =>
    refine ⟨h.defers, by simp [Act.put, h.size], fun j oj s hj hs hl hlt => ?_, fun s hs => ?_⟩
    · by_cases hji : j = i
      · subst hji
        rw [hi] at hj; cases hj
        rw [hd] at hs; cases hs
        simp only [Act.put]
        rw [Array.getElem?_setIfInBounds_self_of_lt (by rw [h.size]; exact hlt)]
      · have hne : d ≠ s := fun e => hji (hO j i oj o s hj hi hs (e ▸ hd))
        simp only [Act.put]
        rw [Array.getElem?_setIfInBounds_ne hne]
        exact h.done j oj s hj hs (hl.resolve_right hji) hlt
    · have hne : d ≠ s := fun e => hs i o hi (Or.inr rfl) (e ▸ hd)
      simp only [Act.put]
      rw [Array.getElem?_setIfInBounds_ne hne]
      exact h.rest s fun j oj hj hl => hs j oj hj (Or.inl hl)
theorem Fr.agree {a0 a a' : Act} {L L' : Nat → Prop} {V : Nat → Value} (h : Fr ops a0 L V a) (h' : Fr ops a0 L' V a') {s : Nat} (hs : ∀ j o, ops[j]? = some o → o.dst = some s → (L j ↔ L' j)) : a.tmps[s]? = a'.tmps[s]? := by
  by_cases hex : ∃ j o, ops[j]? = some o ∧ o.dst = some s ∧ L j
  · obtain ⟨j, o, hj, hd, hl⟩ := hex
    by_cases hlt : s < a0.tmps.size
    · rw [h.done j o s hj hd hl hlt, h'.done j o s hj hd ((hs j o hj hd).1 hl) hlt]
    · rw [Array.getElem?_eq_none (by rw [h.size]; omega), Array.getElem?_eq_none (by rw [h'.size]; omega)]
  · rw [h.rest s fun j o hj hl hd => hex ⟨j, o, hj, hd, hl⟩, h'.rest s fun j o hj hl hd => hex ⟨j, o, hj, hd, (hs j o hj hd).2 hl⟩]
theorem Fr.ext {a0 a a' : Act} {L : Nat → Prop} {V : Nat → Value} (h : Fr ops a0 L V a) (h' : Fr ops a0 L V a') : a = a' := by
  obtain ⟨t, d⟩ := a
  obtain ⟨t', d'⟩ := a'
  have e1 : d = d' := h.defers.trans h'.defers.symm
  have e2 : t = t' := Array.ext_getElem? fun s => h.agree h' fun _ _ _ _ => Iff.rfl
  rw [e1, e2]
end
end Go.Proofs.Ytdpbjdecbilaeaa
/- The law of the text before this one, put together: a region that draws its order, with new variables that it fills. -/
namespace Go.Proofs.Ytdpbjdecbilaeaa
open Go.RowKit
set_option maxRecDepth 100000

section
variable {P : Program} {ops : Array Oper} {Q : Exit → Act → World → Prop}

/-- 0: reads or calls; 1: a new variable; 2: a store. -/
def kindOf (o : Oper) : Nat := match o.op with | .alloc _ => 1 | .store _ _ _ => 2 | _ => 0
def waitsB (ops : Array Oper) (i j : Nat) : Bool := match ops[i]? with | some o => o.after.any fun e => Region.binds .any e && e.on == j | none => false

/-- Of two operations: what one of them writes. -/
def pairB (ops : Array Oper) (i j : Nat) (oi oj : Oper) : Bool :=
  match oj.dst with
  | none => true
  | some s => (oi.dst != some s) && (!(oi.looksAt ops).contains s ||
      (if kindOf oi = 0 then kindOf oj == 0 && (if j < i then waitsB ops i j else waitsB ops j i) else decide (j < i) && waitsB ops i j))
def makeB (ops : Array Oper) : Bool :=
  Region.noSelect ops && (List.range ops.size).all fun i => (List.range ops.size).all fun j => decide (i = j) ||
    match ops[i]?, ops[j]? with | some oi, some oj => pairB ops i j oi oj | _, _ => true

theorem makeB_pair (h : makeB ops = true) {i j : Nat} {oi oj : Oper} (hi : ops[i]? = some oi) (hj : ops[j]? = some oj) (hij : i ≠ j) : pairB ops i j oi oj = true := by
  simp only [makeB, Bool.and_eq_true] at h
  have h1 := List.all_eq_true.1 h.2 i (List.mem_range.2 (Array.getElem?_eq_some_iff.1 hi).1)
  have h2 := List.all_eq_true.1 h1 j (List.mem_range.2 (Array.getElem?_eq_some_iff.1 hj).1)
  simp only [Bool.or_eq_true, decide_eq_true_eq, hij, false_or, hi, hj] at h2
  exact h2
theorem makeB_once (h : makeB ops = true) : Once ops := fun i j oi oj s hi hj hs hs' => by
  by_cases hij : i = j
  · exact hij
  · have := makeB_pair h hi hj hij
    simp [pairB, hs, hs'] at this
theorem waitsB_spec {i j : Nat} (h : waitsB ops i j = true) : ∃ o, ops[i]? = some o ∧ ∃ e ∈ o.after, Region.binds .any e = true ∧ e.on = j := by
  unfold waitsB at h
  split at h
  · rename_i o ho
    obtain ⟨e, he, hb⟩ := Array.any_eq_true'.1 h
    simp only [Bool.and_eq_true, beq_iff_eq] at hb
    exact ⟨o, ho, e, he, hb.1, hb.2⟩
  · cases h

/-- The class of worlds: all that lay in w lies as it lay. -/
abbrev cls (w : World) : World → Prop := fun w' => ∃ g : Ext w, w' = g.on

theorem quiet_keeps {C : World → Prop} {aQ : Act} : ∀ (l : List Oper) (a : Act), wpQuiet P ops C (fun a' => a' = aQ) l a →
    a.defers = aQ.defers ∧ a.tmps.size = aQ.tmps.size ∧ ∀ s, (∀ o ∈ l, o.dst ≠ some s) → a.tmps[s]? = aQ.tmps[s]?
  | [], a, h => by cases (h : a = aQ); exact ⟨rfl, rfl, fun _ _ => rfl⟩
  | o :: l, a, h => by
    have key : ∀ v, wpQuiet P ops C (fun a' => a' = aQ) l (a.put o.dst v) → a.defers = aQ.defers ∧ a.tmps.size = aQ.tmps.size ∧ ∀ s, (∀ o' ∈ o :: l, o'.dst ≠ some s) → a.tmps[s]? = aQ.tmps[s]? := fun v hv => by
      obtain ⟨h1, h2, h3⟩ := quiet_keeps l _ hv
      cases hd : o.dst with
      | none =>
        rw [hd] at h1 h2 h3
        exact ⟨h1, h2, fun s hs => h3 s fun o' ho' => hs o' (List.mem_cons_of_mem _ ho')⟩
      | some d =>
        rw [hd] at h1 h2 h3
        refine ⟨h1, by simpa [Act.put] using h2, fun s hs => ?_⟩
        rw [← h3 s fun o' ho' => hs o' (List.mem_cons_of_mem _ ho')]
        have hne : d ≠ s := fun e => hs o (List.mem_cons_self ..) (e ▸ hd)
        simp only [Act.put]
        rw [Array.getElem?_setIfInBounds_ne hne]
    unfold wpQuiet at h
    split at h
    · obtain ⟨v, _, hv⟩ := h
      exact key v hv
    · exact key _ h

def valQ (ops : Array Oper) (aQ : Act) (i : Nat) : Value := match (ops[i]?).bind (·.dst) with | some d => aQ.tmps.getD d undef | none => undef
def quietL (ops : Array Oper) (k : Nat) : List Oper := (ops.toList.drop k).filter (kindOf · == 0)

theorem quietL_step {k : Nat} {o : Oper} (hk : ops[k]? = some o) : quietL ops k = (if kindOf o = 0 then [o] else []) ++ quietL ops (k + 1) := by
  have hlt : k < ops.toList.length := by simpa using (Array.getElem?_eq_some_iff.1 hk).1
  have he : ops.toList[k] = o := by simpa using (Array.getElem?_eq_some_iff.1 hk).2
  unfold quietL
  rw [List.drop_eq_getElem_cons hlt, he, List.filter_cons]
  by_cases h : kindOf o = 0 <;> simp [h]

/-- What the walk in the text's order shows of each quiet operation. -/
theorem quiet_each (hO : Once ops) {C : World → Prop} {a0 aQ : Act} : ∀ (d k : Nat) (a : Act), ops.size - k = d → Fr ops a0 (fun j => j < k ∧ ∃ o, ops[j]? = some o ∧ kindOf o = 0) (valQ ops aQ) a →
    wpQuiet P ops C (fun a' => a' = aQ) (quietL ops k) a →
    ∀ i o, k ≤ i → ops[i]? = some o → kindOf o = 0 → ∃ ai v, Fr ops a0 (fun j => j < i ∧ ∃ o, ops[j]? = some o ∧ kindOf o = 0) (valQ ops aQ) ai ∧ YieldsIn P ops C o v ai ∧ (∀ s, o.dst = some s → s < a0.tmps.size → v = valQ ops aQ i) := by
  intro d
  induction d with
  | zero =>
    intro k a hk _ _ i o hki hi _
    have := (Array.getElem?_eq_some_iff.1 hi).1
    omega
  | succ d ih =>
    intro k a hk hF hq i o hki hi ho
    have hks : k < ops.size := by omega
    obtain ⟨ok, hok⟩ : ∃ ok, ops[k]? = some ok := ⟨ops[k], Array.getElem?_eq_getElem hks⟩
    rw [quietL_step hok] at hq
    by_cases hz : kindOf ok = 0
    · rw [if_pos hz, List.singleton_append] at hq
      have hyk : ∃ v, YieldsIn P ops C ok v a ∧ wpQuiet P ops C (fun a' => a' = aQ) (quietL ops (k + 1)) (a.put ok.dst v) := by
        unfold wpQuiet at hq
        split at hq
        · rename_i hw
          obtain ⟨v, h1, h2⟩ := hq
          exact ⟨v, .inl ⟨hw, h1⟩, h2⟩
        · rename_i hw
          exact ⟨undef, .inr ⟨by simpa using hw, rfl⟩, hq⟩
      obtain ⟨v, hy, hn⟩ := hyk
      have hv : ∀ s, ok.dst = some s → s < a0.tmps.size → v = valQ ops aQ k := fun s hs hlt => by
        obtain ⟨_, _, h3⟩ := quiet_keeps _ _ hn
        have h4 := h3 s fun o' ho' hd => by
          unfold quietL at ho'
          have hm := (List.mem_filter.1 ho').1
          obtain ⟨j, hj⟩ := List.mem_iff_getElem?.1 hm
          rw [List.getElem?_drop] at hj
          have := hO (k + 1 + j) k o' ok s (by simpa using hj) hok hd hs
          omega
        have hlt' : s < a.tmps.size := by rw [hF.size]; exact hlt
        rw [hs] at h4
        simp only [Act.put] at h4
        rw [Array.getElem?_setIfInBounds_self_of_lt hlt'] at h4
        unfold valQ
        simp [hok, hs, ← h4]
      have hput : a.put ok.dst v = a.put ok.dst (valQ ops aQ k) := by
        cases hd : ok.dst with
        | none => rfl
        | some s =>
          by_cases hlt : s < a0.tmps.size
          · rw [hv s hd hlt]
          · have hle : a.tmps.size ≤ s := by rw [hF.size]; exact Nat.not_lt.1 hlt
            simp only [Act.put]
            rw [Array.setIfInBounds_eq_of_size_le hle, Array.setIfInBounds_eq_of_size_le hle]
      by_cases hik : i = k
      · subst hik
        rw [hok] at hi; cases hi
        exact ⟨a, v, hF, hy, hv⟩
      · rw [hput] at hn
        exact ih (k + 1) _ (by omega) ((hF.put hO hok).congr (fun j _ => ⟨fun h => h.elim (fun h => ⟨by omega, h.2⟩) (fun h => by subst h; exact ⟨by omega, ok, hok, hz⟩), fun h => (Nat.lt_succ_iff_lt_or_eq.1 h.1).elim (fun h' => .inl ⟨h', h.2⟩) .inr⟩) (fun _ _ => rfl)) hn i o (by omega) hi ho
    · rw [if_neg hz, List.nil_append] at hq
      have hik : i ≠ k := fun e => by subst e; rw [hok] at hi; cases hi; exact hz ho
      exact ih (k + 1) a (by omega) (hF.congr (fun j _ => ⟨fun h => ⟨by omega, h.2⟩, fun h => ⟨by
        rcases Nat.lt_succ_iff_lt_or_eq.1 h.1 with h' | rfl
        · exact h'
        · obtain ⟨o', ho', hz'⟩ := h.2
          rw [hok] at ho'; cases ho'; exact absurd hz' hz, h.2⟩⟩) (fun _ _ => rfl)) hq i o (by omega) hi ho

theorem eval_same {a a' : Act} {x : Operand} (h : ∀ s, x = .tmp s → a.tmps[s]? = a'.tmps[s]?) : a.eval x = a'.eval x := by
  cases x with
  | tmp s => simp [Act.eval, h s rfl]
  | _ => rfl
theorem exec_same {a a' : Act} (o : Oper) (hs : ∀ cs b, o.op ≠ .select cs b) (h : ∀ s ∈ o.looksAt ops, a.tmps[s]? = a'.tmps[s]?) : execOp a.eval o = execOp a'.eval o :=
  execOp_congr o hs fun x hx => eval_same fun s e => h s (by subst e; exact List.mem_append_left _ (List.mem_filterMap.2 ⟨.tmp s, by simpa using hx, rfl⟩))
theorem wanted_same {a a' : Act} (o : Oper) (h : ∀ s ∈ o.looksAt ops, a.tmps[s]? = a'.tmps[s]?) : Region.wanted o (yielded ops a.tmps) = Region.wanted o (yielded ops a'.tmps) := by
  unfold Region.wanted
  cases hg : o.guard with
  | none => rfl
  | some gw =>
    obtain ⟨g, want⟩ := gw
    have hy : yielded ops a.tmps g = yielded ops a'.tmps g := by
      unfold yielded
      cases ht : (ops[g]?).bind (·.dst) with
      | none => rfl
      | some t => simp only [Option.bind_some]; rw [h t (by simp [Oper.looksAt, hg, ht])]
    simp only [hy]
end
end Go.Proofs.Ytdpbjdecbilaeaa
/- The law itself: a region that draws its order, whose operations read, call functions that only make new memory, make new variables, and fill them. -/
namespace Go.Proofs.Ytdpbjdecbilaeaa
open Go.RowKit
set_option maxRecDepth 100000

section
variable {P : Program} {ops : Array Oper} {Q : Exit → Act → World → Prop}

/-- What is said of the new variables: of each its operation's number, type, first content, last content, and the number of the store that fills it. -/
structure Made where
  op : Nat
  type : TypeId
  zero : Array Value
  full : Array Value
  store : Nat

structure MadeOk (P : Program) (ops : Array Oper) (aQ : Act) (ms : List Made) : Prop where
  alloc : ∀ m ∈ ms, ∃ o, ops[m.op]? = some o ∧ o.guard = none ∧ kindOf o = 1 ∧ ∀ (ρ : Operand → Value) (w : World), (execOp ρ o).run P w = .ok (.value (.pointer (some ⟨w.heap.size, 0, none⟩))) (w.alloc (.cells m.zero m.type))
  store : ∀ m ∈ ms, ∃ (o : Oper) (d : Tmp) (x : Operand), ops[m.store]? = some o ∧ o.guard = none ∧ o.dst = none ∧ kindOf o = 2 ∧ (ops[m.op]?).bind (·.dst) = some d ∧ d < aQ.tmps.size ∧ .tmp d ∈ o.op.operands ∧ x ∈ o.op.operands ∧ (∀ m' ∈ ms, (ops[m'.op]?).bind (·.dst) = some d → m' = m) ∧
      (∀ e, x = .tmp e → ∀ m' ∈ ms, (ops[m'.op]?).bind (·.dst) ≠ some e) ∧ aQ.eval x = .agg m.full ∧
      ∀ (ρ : Operand → Value) (b : Nat) (w : World), ρ (.tmp d) = .pointer (some ⟨b, 0, none⟩) → ρ x = .agg m.full → w.heap[b]? = some (.cells m.zero m.type) → (execOp ρ o).run P w = .ok .skip (w.setRow b m.full)
  allAlloc : ∀ i o, ops[i]? = some o → kindOf o = 1 → ∃ m ∈ ms, m.op = i
  allStore : ∀ i o, ops[i]? = some o → kindOf o = 2 → ∃ m ∈ ms, m.store = i
  onceA : ∀ m ∈ ms, ∀ m' ∈ ms, m.op = m'.op → m = m'
  onceS : ∀ m ∈ ms, ∀ m' ∈ ms, m.store = m'.store → m = m'

/-- Where the new variables lie. -/
structure Lies (w0 : World) (ms : List Made) (L : Nat → Prop) (full : Made → Prop) (V : Nat → Value) (w : World) : Prop where
  here : ∀ m ∈ ms, L m.op → ∃ b, V m.op = .pointer (some ⟨b, 0, none⟩) ∧ w0.heap.size ≤ b ∧ b < w.heap.size ∧ (full m → w.heap[b]? = some (.cells m.full m.type)) ∧ (¬ full m → w.heap[b]? = some (.cells m.zero m.type))
  apart : ∀ m ∈ ms, ∀ m' ∈ ms, L m.op → L m'.op → m ≠ m' → V m.op ≠ V m'.op

/-- Every operation waits for earlier ones alone. -/
def fwdB (ops : Array Oper) : Bool := (List.range ops.size).all fun i => match ops[i]? with | some o => o.after.all fun e => !Region.binds .any e || decide (e.on < i) | none => true
theorem fwdB_spec (h : fwdB ops = true) {i : Nat} {o : Oper} (hi : ops[i]? = some o) {e : Edge} (he : e ∈ o.after) (hb : Region.binds .any e = true) : e.on < i := by
  have h1 := List.all_eq_true.1 h i (List.mem_range.2 (Array.getElem?_eq_some_iff.1 hi).1)
  simp only [hi] at h1
  have h2 := Array.all_eq_true_iff_forall_mem.1 h1 e he
  simpa [hb] using h2

/-- Which operations have come up. -/
abbrev up (listed : Array Bool) (j : Nat) : Prop := listed.getD j false = true
theorem up_set {listed : Array Bool} {i : Nat} (hi : i < listed.size) (j : Nat) : up (listed.setIfInBounds i true) j ↔ (up listed j ∨ j = i) := by
  unfold up
  by_cases h : j = i
  · subst h; simp [hi]
  · have h' : i ≠ j := fun e => h e.symm
    simp [Array.getElem?_setIfInBounds_ne h', h]
theorem not_up {listed : Array Bool} {i : Nat} (h : listed.getD i true = false) : ¬ up listed i := fun h' => by
  unfold up at h'
  rcases Nat.lt_or_ge i listed.size with hl | hl
  · simp [hl] at h h'; rw [h] at h'; cases h'
  · simp [Array.getElem?_eq_none hl] at h

theorem setRow_other (w : World) (b k : Nat) (cs : Array Value) (h : k ≠ b) : (w.setRow b cs).heap[k]? = w.heap[k]? := by
  simp only [World.setRow, Array.getElem?_modify]
  rw [if_neg (fun e => h e.symm)]
theorem setRow_size (w : World) (b : Nat) (cs : Array Value) : (w.setRow b cs).heap.size = w.heap.size := by simp [World.setRow]
theorem below_setRow {B : Nat} {w0 w : World} (h : Below B w0 w) {b : Nat} (hb : B ≤ b) (cs : Array Value) : Below B w0 (w.setRow b cs) :=
  ⟨h.os, h.tape, h.output, by rw [setRow_size]; exact h.size, fun k hk => by rw [setRow_other _ _ _ _ (by omega)]; exact h.block k hk⟩

structure J (ops : Array Oper) (w0 : World) (a0 aQ : Act) (ms : List Made) (listed : Array Bool) (a : Act) (w : World) : Prop where
  size : listed.size = ops.size
  closed : ∀ j o, ops[j]? = some o → up listed j → ∀ e ∈ o.after, Region.binds .any e = true → up listed e.on
  below : Below w0.heap.size w0 w
  rest : ∃ V : Nat → Value, (∀ i o, ops[i]? = some o → kindOf o = 0 → V i = valQ ops aQ i) ∧ Fr ops a0 (up listed) V a ∧ Lies w0 ms (up listed) (fun m => up listed m.store) V w

theorem closed_set {listed : Array Bool} (hsz : listed.size = ops.size) (hc : ∀ j o, ops[j]? = some o → up listed j → ∀ e ∈ o.after, Region.binds .any e = true → up listed e.on) {i : Nat} (hi : i ∈ Region.ready .any ops listed) :
    ∀ j o, ops[j]? = some o → up (listed.setIfInBounds i true) j → ∀ e ∈ o.after, Region.binds .any e = true → up (listed.setIfInBounds i true) e.on := by
  obtain ⟨_, oi, hoi, hall⟩ := mem_ready' hi
  have hlt : i < listed.size := by rw [hsz]; exact (Array.getElem?_eq_some_iff.1 hoi).1
  intro j o hj hu e he hb
  rw [up_set hlt] at hu ⊢
  rcases hu with hu | rfl
  · exact .inl (hc j o hj hu e he hb)
  · rw [hoi] at hj; cases hj
    exact .inl (hall e he hb)

theorem look_up (hB : makeB ops = true) {listed : Array Bool} (hc : ∀ j o, ops[j]? = some o → up listed j → ∀ e ∈ o.after, Region.binds .any e = true → up listed e.on) {i : Nat} {o : Oper} (hi : i ∈ Region.ready .any ops listed) (ho : ops[i]? = some o)
    {j : Nat} {oj : Oper} {s : Tmp} (hj : ops[j]? = some oj) (hd : oj.dst = some s) (hs : s ∈ o.looksAt ops) (hij : i ≠ j) :
    (kindOf o = 0 → kindOf oj = 0 ∧ (up listed j ↔ j < i)) ∧ (kindOf o ≠ 0 → up listed j) := by
  obtain ⟨hun, oi, hoi, hall⟩ := mem_ready' hi
  rw [ho] at hoi; cases hoi
  have hp := makeB_pair hB ho hj hij
  simp only [pairB, hd, Bool.and_eq_true, Bool.or_eq_true, Bool.not_eq_true', List.contains_eq_mem, decide_eq_false_iff_not] at hp
  have hp2 := hp.2.resolve_left (fun h => h hs)
  have dep : ∀ k l, waitsB ops k l = true → k = i → up listed l := fun k l h e => by
    obtain ⟨o', ho', e', he', hb, hon⟩ := waitsB_spec h
    subst e
    rw [ho] at ho'; cases ho'
    rw [← hon]; exact hall e' he' hb
  refine ⟨fun hz => ?_, fun hz => ?_⟩
  · rw [if_pos hz] at hp2
    simp only [Bool.and_eq_true, beq_iff_eq] at hp2
    refine ⟨hp2.1, ?_⟩
    by_cases hji : j < i
    · rw [if_pos hji] at hp2
      exact ⟨fun _ => hji, fun _ => dep _ _ hp2.2 rfl⟩
    · rw [if_neg hji] at hp2
      refine ⟨fun hu => ?_, fun h => absurd h hji⟩
      obtain ⟨o', ho', e', he', hb, hon⟩ := waitsB_spec hp2.2
      have := hc j o' ho' hu e' he' hb
      rw [hon] at this
      exact absurd this (not_up hun)
  · rw [if_neg hz] at hp2
    simp only [Bool.and_eq_true, decide_eq_true_eq] at hp2
    exact dep _ _ hp2.2 rfl
end
end Go.Proofs.Ytdpbjdecbilaeaa
/- The law's steps, and the law: a region that draws its order, with new variables that it fills. -/
namespace Go.Proofs.Ytdpbjdecbilaeaa
open Go.RowKit
set_option maxRecDepth 100000

section
variable {P : Program} {ops : Array Oper} {Q : Exit → Act → World → Prop} {w0 : World} {a0 aQ : Act} {ms : List Made} {listed : Array Bool} {a : Act} {w : World} {i : Nat} {o : Oper}

theorem getD_rep (m j : Nat) : (Array.replicate m false).getD j false = false := by
  rcases Nat.lt_or_ge j m with h | h
  · simp [h]
  · simp [h]

theorem put_same {s : Nat → Value} {v : Value} (hF : Fr ops a0 (up listed) s a) (hv : ∀ d, o.dst = some d → d < a0.tmps.size → v = s i) : a.put o.dst v = a.put o.dst (s i) := by
  cases hd : o.dst with
  | none => rfl
  | some d =>
    by_cases hlt : d < a0.tmps.size
    · rw [hv d hd hlt]
    · have hle : a.tmps.size ≤ d := by rw [hF.size]; exact Nat.not_lt.1 hlt
      simp only [Act.put]
      rw [Array.setIfInBounds_eq_of_size_le hle, Array.setIfInBounds_eq_of_size_le hle]

theorem step_quiet' (hB : makeB ops = true) (hq : ∀ w1 : Ext w0, wpQuiet P ops (cls w1.on) (fun a' => a' = aQ) (quietL ops 0) a0)
    (hno : ∀ m ∈ ms, m.op ≠ i ∧ m.store ≠ i) (hJ : J ops w0 a0 aQ ms listed a w) (hi : i ∈ Region.ready .any ops listed) (ho : ops[i]? = some o) (hk : kindOf o = 0) :
    wpOp P ops Q i (J ops w0 a0 aQ ms (listed.setIfInBounds i true)) a w := by
  obtain ⟨hun, _⟩ := mem_ready' hi
  have hlt : i < listed.size := by rw [hJ.size]; exact (Array.getElem?_eq_some_iff.1 ho).1
  obtain ⟨V, hV, hF, hL⟩ := hJ.rest
  have hO := makeB_once hB
  obtain ⟨ai, v, hFi, hy, hv⟩ := quiet_each hO (C := cls w) (a0 := a0) (aQ := aQ) (P := P) _ 0 a0 rfl ((Fr.start a0 (valQ ops aQ)).congr (fun j _ => ⟨fun h => h.elim, fun h => absurd h.1 (Nat.not_lt_zero _)⟩) (fun _ h => h.elim)) (hq ⟨w, hJ.below⟩) i o (Nat.zero_le _) ho hk
  have hFi' : Fr ops a0 (fun j => j < i ∧ ∃ o, ops[j]? = some o ∧ kindOf o = 0) V ai := hFi.congr (fun _ _ => Iff.rfl) (fun j h => by obtain ⟨_, o', ho', hz⟩ := h; exact (hV j o' ho' hz).symm)
  have same : ∀ s ∈ o.looksAt ops, a.tmps[s]? = ai.tmps[s]? := fun s hs => hF.agree hFi' fun j oj hj hd => by
    by_cases hij : i = j
    · subst hij
      exact ⟨fun h => absurd h (not_up hun), fun h => absurd h.1 (Nat.lt_irrefl _)⟩
    · obtain ⟨h1, _⟩ := look_up hB hJ.closed hi ho hj hd hs hij
      obtain ⟨hz, hiff⟩ := h1 hk
      exact ⟨fun h => ⟨hiff.1 h, oj, hj, hz⟩, fun h => hiff.2 h.1⟩
  have hsel : ∀ cs b, o.op ≠ .select cs b := by
    have h0 : Region.noSelect ops = true := by simp only [makeB, Bool.and_eq_true] at hB; exact hB.1
    exact fun cs b => Region.noSelect_spec h0 i o cs b ho
  have hvi : valQ ops aQ i = V i := (hV i o ho hk).symm
  have fin : ∀ w', cls w w' → J ops w0 a0 aQ ms (listed.setIfInBounds i true) (a.put o.dst v) w' := fun w' hw' => by
    obtain ⟨g, rfl⟩ := hw'
    refine ⟨by simp [hJ.size], closed_set hJ.size hJ.closed hi, hJ.below.trans (g.below.mono hJ.below.size), V, hV, ?_, ?_⟩
    · rw [put_same (s := V) hF (fun d hd hl => (hv d hd hl).trans hvi)]
      exact (hF.put hO ho).congr (fun j _ => (up_set hlt j).symm) (fun _ _ => rfl)
    · refine ⟨fun m hm hu => ?_, fun m hm m' hm' hu hu' hne => ?_⟩
      · have hu' := ((up_set hlt _).1 hu).resolve_right (hno m hm).1
        obtain ⟨b, hb, h1, h2, h3, h4⟩ := hL.here m hm hu'
        refine ⟨b, hb, h1, Nat.lt_of_lt_of_le h2 g.below.size, fun hf => ?_, fun hf => ?_⟩
        · exact g.block (h3 (((up_set hlt _).1 hf).resolve_right (hno m hm).2))
        · exact g.block (h4 fun hf' => hf ((up_set hlt _).2 (.inl hf')))
      · exact hL.apart m hm m' hm' (((up_set hlt _).1 hu).resolve_right (hno m hm).1) (((up_set hlt _).1 hu').resolve_right (hno m' hm').1) hne
  unfold wpOp
  simp only [ho]
  rw [wanted_same o same]
  have hw0 : cls w w := ⟨⟨w, Below.refl _ _⟩, rfl⟩
  rcases hy with ⟨hw, hqa⟩ | ⟨hw, rfl⟩
  · rw [if_pos hw]
    refine .inl (Oper.wp_of_quiet (C := cls w) (K := fun a' => a' = a.put o.dst v) hw0 (fun a' w' hw' e => by subst e; exact fin w' hw') ⟨v, fun w' hw' => ?_, rfl⟩)
    have := hqa w' hw'
    unfold Oper.quietAt at this ⊢
    rwa [exec_same o hsel same]
  · rw [if_neg (by rw [hw]; exact Bool.false_ne_true)]
    exact fin w hw0

theorem step_quiet (hB : makeB ops = true) (hq : ∀ w1 : Ext w0, wpQuiet P ops (cls w1.on) (fun a' => a' = aQ) (quietL ops 0) a0)
    (hms : MadeOk P ops aQ ms) (hJ : J ops w0 a0 aQ ms listed a w) (hi : i ∈ Region.ready .any ops listed) (ho : ops[i]? = some o) (hk : kindOf o = 0) :
    wpOp P ops Q i (J ops w0 a0 aQ ms (listed.setIfInBounds i true)) a w :=
  step_quiet' hB hq (fun m hm => by
    obtain ⟨oa, hoa, _, ka, _⟩ := hms.alloc m hm
    obtain ⟨os, _, _, hos, _, _, ks, _⟩ := hms.store m hm
    refine ⟨fun e => ?_, fun e => ?_⟩
    · rw [e, ho] at hoa; cases hoa; omega
    · rw [e, ho] at hos; cases hos; omega) hJ hi ho hk

theorem step_alloc (hB : makeB ops = true) (hms : MadeOk P ops aQ ms) (hJ : J ops w0 a0 aQ ms listed a w) (hi : i ∈ Region.ready .any ops listed) (ho : ops[i]? = some o) (hk : kindOf o = 1) :
    wpOp P ops Q i (J ops w0 a0 aQ ms (listed.setIfInBounds i true)) a w := by
  obtain ⟨hun, _⟩ := mem_ready' hi
  have hlt : i < listed.size := by rw [hJ.size]; exact (Array.getElem?_eq_some_iff.1 ho).1
  obtain ⟨V, hV, hF, hL⟩ := hJ.rest
  have hO := makeB_once hB
  obtain ⟨m, hm, rfl⟩ := hms.allAlloc i o ho hk
  obtain ⟨o', ho', hg, _, hrun⟩ := hms.alloc m hm
  rw [ho] at ho'; cases ho'
  have hst : m.store ≠ m.op := fun e => by
    obtain ⟨os, _, _, hos, _, _, ks, _⟩ := hms.store m hm
    rw [e, ho] at hos; cases hos; omega
  have hstu : ¬ up listed m.store := fun h => by
    obtain ⟨os, d, _, hos, _, _, ks, hd, _, hlook, _⟩ := hms.store m hm
    have hdo : o.dst = some d := by simpa [ho] using hd
    have hp := makeB_pair hB hos ho hst
    simp only [pairB, hdo, Bool.and_eq_true, Bool.or_eq_true, Bool.not_eq_true', List.contains_eq_mem, decide_eq_false_iff_not] at hp
    have hin : d ∈ os.looksAt ops := List.mem_append_left _ (List.mem_filterMap.2 ⟨.tmp d, by simpa using hlook, rfl⟩)
    have hp2 := hp.2.resolve_left (fun h => h hin)
    rw [if_neg (by omega)] at hp2
    simp only [Bool.and_eq_true] at hp2
    obtain ⟨o2, ho2, e2, he2, hb2, hon⟩ := waitsB_spec hp2.2
    have := hJ.closed m.store o2 ho2 h e2 he2 hb2
    rw [hon] at this
    exact absurd this (not_up hun)
  have hne : ∀ m' ∈ ms, m' ≠ m → m'.op ≠ m.op ∧ m'.store ≠ m.op := fun m' hm' hd => ⟨fun e => hd (hms.onceA m' hm' m hm e), fun e => by
    obtain ⟨os, _, _, hos, _, _, ks, _⟩ := hms.store m' hm'
    rw [e, ho] at hos; cases hos; omega⟩
  unfold wpOp
  simp only [ho]
  have hw : Region.wanted o (yielded ops a.tmps) = true := by simp [Region.wanted, hg]
  rw [if_pos hw]
  refine .inl ?_
  unfold Oper.wp
  rw [hrun]
  simp only [Oper.upon]
  let V' : Nat → Value := fun j => if j = m.op then .pointer (some ⟨w.heap.size, 0, none⟩) else V j
  have hV'i : V' m.op = .pointer (some ⟨w.heap.size, 0, none⟩) := by simp [V']
  have hV'o : ∀ j, j ≠ m.op → V' j = V j := fun j h => by simp [V', h]
  refine ⟨by simp [hJ.size], closed_set hJ.size hJ.closed hi, hJ.below.alloc hJ.below.size _, V', fun j oj hj hz => ?_, ?_, ?_, ?_⟩
  · rw [hV'o j fun e => by subst e; rw [ho] at hj; cases hj; omega]
    exact hV j oj hj hz
  · have hF' : Fr ops a0 (up listed) V' a := hF.congr (fun _ _ => Iff.rfl) (fun j hj => (hV'o j fun e => by subst e; exact absurd hj (not_up hun)).symm)
    have := hF'.put hO ho
    rw [hV'i] at this
    exact this.congr (fun j _ => (up_set hlt j).symm) (fun _ _ => rfl)
  · intro m' hm' hu
    by_cases he : m' = m
    · subst he
      refine ⟨w.heap.size, hV'i, hJ.below.size, by simp, fun hf => absurd (((up_set hlt _).1 hf).resolve_right hst) hstu, fun _ => heap_alloc_new _ _⟩
    · obtain ⟨n1, n2⟩ := hne m' hm' he
      obtain ⟨b, hb, h1, h2, h3, h4⟩ := hL.here m' hm' (((up_set hlt _).1 hu).resolve_right n1)
      refine ⟨b, by rw [hV'o _ n1]; exact hb, h1, by simp; omega, fun hf => ?_, fun hf => ?_⟩
      · rw [Below.heap_alloc _ _ _ h2]; exact h3 (((up_set hlt _).1 hf).resolve_right n2)
      · rw [Below.heap_alloc _ _ _ h2]; exact h4 fun hf' => hf ((up_set hlt _).2 (.inl hf'))
  · intro m1 hm1 m2 hm2 hu1 hu2 hd
    by_cases e1 : m1 = m
    · subst e1
      have e2 : m2 ≠ m1 := fun e => hd e.symm
      obtain ⟨n1, _⟩ := hne m2 hm2 e2
      obtain ⟨b, hb, _, h2, _⟩ := hL.here m2 hm2 (((up_set hlt _).1 hu2).resolve_right n1)
      rw [hV'i, hV'o _ n1, hb]
      intro e
      simp only [Value.pointer.injEq, Option.some.injEq, Addr.mk.injEq] at e
      omega
    · obtain ⟨n1, _⟩ := hne m1 hm1 e1
      have hu1' := ((up_set hlt _).1 hu1).resolve_right n1
      by_cases e2 : m2 = m
      · subst e2
        obtain ⟨b, hb, _, h2, _⟩ := hL.here m1 hm1 hu1'
        rw [hV'i, hV'o _ n1, hb]
        intro e
        simp only [Value.pointer.injEq, Option.some.injEq, Addr.mk.injEq] at e
        omega
      · obtain ⟨n2, _⟩ := hne m2 hm2 e2
        rw [hV'o _ n1, hV'o _ n2]
        exact hL.apart m1 hm1 m2 hm2 hu1' (((up_set hlt _).1 hu2).resolve_right n2) hd

theorem aQ_fr (_hB : makeB ops = true) (hq : wpQuiet P ops (cls w0) (fun a' => a' = aQ) (quietL ops 0) a0) : Fr ops a0 (fun j => ∃ o, ops[j]? = some o ∧ kindOf o = 0) (valQ ops aQ) aQ := by
  obtain ⟨h1, h2, h3⟩ := quiet_keeps _ _ hq
  refine ⟨h1.symm, h2.symm, fun j o s hj hs _ hlt => ?_, fun s hs => (h3 s fun o ho hd => ?_).symm⟩
  · have hlt' : s < aQ.tmps.size := by rw [← h2]; exact hlt
    unfold valQ
    simp [hj, hs, hlt']
  · unfold quietL at ho
    obtain ⟨hm, hz⟩ := List.mem_filter.1 ho
    obtain ⟨j, hj⟩ := List.mem_iff_getElem?.1 hm
    rw [List.drop_zero] at hj
    exact hs j o (by simpa using hj) ⟨o, by simpa using hj, by simpa using hz⟩ hd

theorem step_store (hB : makeB ops = true) (hq : wpQuiet P ops (cls w0) (fun a' => a' = aQ) (quietL ops 0) a0) (hms : MadeOk P ops aQ ms) (hJ : J ops w0 a0 aQ ms listed a w) (hi : i ∈ Region.ready .any ops listed) (ho : ops[i]? = some o) (hk : kindOf o = 2) :
    wpOp P ops Q i (J ops w0 a0 aQ ms (listed.setIfInBounds i true)) a w := by
  obtain ⟨hun, _⟩ := mem_ready' hi
  have hlt : i < listed.size := by rw [hJ.size]; exact (Array.getElem?_eq_some_iff.1 ho).1
  obtain ⟨V, hV, hF, hL⟩ := hJ.rest
  have hO := makeB_once hB
  obtain ⟨m, hm, rfl⟩ := hms.allStore i o ho hk
  obtain ⟨o', d, x, ho', hg, hdst, _, hd, hdlt, hlook, hx, _, hxn, hxv, hrun⟩ := hms.store m hm
  rw [ho] at ho'; cases ho'
  obtain ⟨oa, hoa, _, ka, _⟩ := hms.alloc m hm
  have hda : oa.dst = some d := by simpa [hoa] using hd
  have looks : ∀ s, .tmp s ∈ o.op.operands → s ∈ o.looksAt ops := fun s h => List.mem_append_left _ (List.mem_filterMap.2 ⟨.tmp s, by simpa using h, rfl⟩)
  have hne : m.store ≠ m.op := fun e => by rw [e, hoa] at ho; cases ho; omega
  have hup : up listed m.op := (look_up hB hJ.closed hi ho hoa hda (looks d hlook) hne).2 (by omega)
  obtain ⟨b, hb, hb1, hb2, _, hb4⟩ := hL.here m hm hup
  have hFQ := aQ_fr hB hq
  have hsize : d < a0.tmps.size := by rw [← hFQ.size]; exact hdlt
  have e1 : a.eval (.tmp d) = .pointer (some ⟨b, 0, none⟩) := by
    have := hF.done m.op oa d hoa hda hup hsize
    simp [Act.eval, this, hb]
  have hFQ' : Fr ops a0 (fun j => ∃ o, ops[j]? = some o ∧ kindOf o = 0) V aQ := hFQ.congr (fun _ _ => Iff.rfl) (fun j h => by obtain ⟨o', ho', hz⟩ := h; exact (hV j o' ho' hz).symm)
  have e2 : a.eval x = .agg m.full := by
    rw [← hxv]
    refine eval_same fun s hs => hF.agree hFQ' fun j oj hj hdj => ?_
    subst hs
    have hji : m.store ≠ j := fun e => by subst e; rw [ho] at hj; cases hj; rw [hdst] at hdj; cases hdj
    have hu := (look_up hB hJ.closed hi ho hj hdj (looks s hx) hji).2 (by omega)
    refine ⟨fun _ => ⟨oj, hj, ?_⟩, fun _ => hu⟩
    have hk1 : kindOf oj ≠ 1 := fun hk1 => by
      obtain ⟨m', hm', e⟩ := hms.allAlloc j oj hj hk1
      exact hxn s rfl m' hm' (by rw [e]; simp [hj, hdj])
    have hk2 : kindOf oj ≠ 2 := fun hk2 => by
      obtain ⟨m', hm', e⟩ := hms.allStore j oj hj hk2
      obtain ⟨os, _, _, hos, _, hds, _⟩ := hms.store m' hm'
      rw [e, hj] at hos; cases hos
      rw [hds] at hdj; cases hdj
    have h3 : kindOf oj = 0 ∨ kindOf oj = 1 ∨ kindOf oj = 2 := by
      unfold kindOf; split <;> simp
    omega
  have hzero : w.heap[b]? = some (.cells m.zero m.type) := hb4 (not_up hun)
  have hno : ∀ m' ∈ ms, m'.op ≠ m.store := fun m' hm' e => by
    obtain ⟨oa', hoa', _, ka', _⟩ := hms.alloc m' hm'
    rw [e, ho] at hoa'; cases hoa'; omega
  unfold wpOp
  simp only [ho]
  have hw : Region.wanted o (yielded ops a.tmps) = true := by simp [Region.wanted, hg]
  rw [if_pos hw]
  refine .inl ?_
  unfold Oper.wp
  rw [hrun a.eval b w e1 e2 hzero]
  simp only [Oper.upon]
  refine ⟨by simp [hJ.size], closed_set hJ.size hJ.closed hi, below_setRow hJ.below hb1 _, V, hV, ?_, ?_, ?_⟩
  · rw [put_same (s := V) (i := m.store) hF (fun d' hd' _ => by rw [hdst] at hd'; cases hd')]
    exact (hF.put hO ho).congr (fun j _ => (up_set hlt j).symm) (fun _ _ => rfl)
  · intro m' hm' hu
    have hu' := ((up_set hlt _).1 hu).resolve_right (hno m' hm')
    by_cases he : m' = m
    · subst he
      exact ⟨b, hb, hb1, by rw [setRow_size]; exact hb2, fun _ => setRow_heap _ _ _ _ _ _ hzero, fun hf => absurd ((up_set hlt _).2 (.inr rfl)) hf⟩
    · obtain ⟨b', hb', h1, h2, h3, h4⟩ := hL.here m' hm' hu'
      have hbb : b' ≠ b := fun e => hL.apart m' hm' m hm hu' hup he (by rw [hb', hb, e])
      refine ⟨b', hb', h1, by rw [setRow_size]; exact h2, fun hf => ?_, fun hf => ?_⟩
      · rw [setRow_other _ _ _ _ hbb]
        exact h3 (((up_set hlt _).1 hf).resolve_right fun e => he (hms.onceS m' hm' m hm e))
      · rw [setRow_other _ _ _ _ hbb]
        exact h4 fun hf' => hf ((up_set hlt _).2 (.inl hf'))
  · intro m1 hm1 m2 hm2 hu1 hu2 hd'
    exact hL.apart m1 hm1 m2 hm2 (((up_set hlt _).1 hu1).resolve_right (hno m1 hm1)) (((up_set hlt _).1 hu2).resolve_right (hno m2 hm2)) hd'

/-- The frame at the end: the quiet operations', and where the new variables lie. -/
def endFrame (ops : Array Oper) (V : Nat → Value) (ms : List Made) (aQ : Act) : Act := ms.foldl (fun a m => a.put ((ops[m.op]?).bind (·.dst)) (V m.op)) aQ

theorem endFrame_fr (hO : Once ops) {V : Nat → Value} {L : Nat → Prop} (hF : Fr ops a0 L V a) : ∀ (l : List Made), (∀ m ∈ l, ∃ o, ops[m.op]? = some o) → ∀ {L : Nat → Prop} {a : Act}, Fr ops a0 L V a → Fr ops a0 (fun j => L j ∨ ∃ m ∈ l, m.op = j) V (endFrame ops V l a)
  | [], _, _, _, h => h.congr (fun _ _ => by simp) (fun _ _ => rfl)
  | m :: l, hl, _, _, h => by
    obtain ⟨o, ho⟩ := hl m (by simp)
    have h1 := endFrame_fr hO hF l (fun m' hm' => hl m' (by simp [hm'])) (h.put hO ho)
    have e : (ops[m.op]?).bind (·.dst) = o.dst := by simp [ho]
    unfold endFrame at h1 ⊢
    rw [List.foldl_cons, e]
    refine h1.congr (fun j _ => ⟨fun h => ?_, fun h => ?_⟩) (fun _ _ => rfl)
    · rcases h with h | ⟨m', hm', e'⟩
      · rcases h with h | h
        · exact .inl h
        · exact .inr ⟨m, by simp, h.symm⟩
      · exact .inr ⟨m', by simp [hm'], e'⟩
    · rcases h with h | ⟨m', hm', e'⟩
      · exact .inl (.inl h)
      · rcases List.mem_cons.1 hm' with rfl | hm'
        · exact .inl (.inr e'.symm)
        · exact .inr ⟨m', hm', e'⟩

/-- THE LAW. -/
theorem wp_region_make {id : Nat} (hm : P.follows .mixedOrders = true) (hB : makeB ops = true) (hfwd : fwdB ops = true)
    (hms : MadeOk P ops aQ ms) (hq : ∀ w1 : Ext w.drew, wpQuiet P ops (cls w1.on) (fun a' => a' = aQ) (quietL ops 0) a0)
    (h : ∀ (V : Nat → Value) (w' : World), Below w.heap.size w w' → Lies w ms (fun _ => True) (fun _ => True) V w' → Q .normal (endFrame ops V ms aQ) w') :
    (Code.region id ops true).wp P Q a0 w := by
  refine wp_region_any hm ?_
  have hq0 : wpQuiet P ops (cls w.drew) (fun a' => a' = aQ) (quietL ops 0) a0 := hq ⟨w.drew, Below.refl _ _⟩
  refine wpAny_inv (J := J ops w.drew a0 aQ ms) (fun listed a w' hJ hall => ?_) (fun _ _ _ hJ => hJ.size) (fun listed a w' hJ hr => ?_) (fun listed a w' i o hJ hi ho => ?_) _ _ _ _ ?_ ?_
  · obtain ⟨V, hV, hF, hL⟩ := hJ.rest
    have hO := makeB_once hB
    have hFQ' : Fr ops a0 (fun j => ∃ o, ops[j]? = some o ∧ kindOf o = 0) V aQ := (aQ_fr hB hq0).congr (fun _ _ => Iff.rfl) (fun j h => by obtain ⟨o', ho', hz⟩ := h; exact (hV j o' ho' hz).symm)
    have hE := endFrame_fr hO hFQ' ms (fun m hm => by obtain ⟨o, ho, _⟩ := hms.alloc m hm; exact ⟨o, ho⟩) hFQ'
    have hst : ∀ j, j < ops.size → up listed j := hall
    have e : a = endFrame ops V ms aQ := by
      obtain ⟨t, d⟩ := a
      have hag : ∀ s : Nat, t[s]? = (endFrame ops V ms aQ).tmps[s]? := fun s => hF.agree hE fun j oj hj hdj => by
          refine ⟨fun _ => ?_, fun _ => hst j (Array.getElem?_eq_some_iff.1 hj).1⟩
          have h3 : kindOf oj = 0 ∨ kindOf oj = 1 ∨ kindOf oj = 2 := by unfold kindOf; split <;> simp
          rcases h3 with h3 | h3 | h3
          · exact .inl ⟨oj, hj, h3⟩
          · obtain ⟨m, hm, e⟩ := hms.allAlloc j oj hj h3
            exact .inr ⟨m, hm, e⟩
          · obtain ⟨m', hm', e⟩ := hms.allStore j oj hj h3
            obtain ⟨os, _, _, hos, _, hds, _⟩ := hms.store m' hm'
            rw [e, hj] at hos; cases hos
            rw [hds] at hdj
            cases hdj
      have h1 : t = (endFrame ops V ms aQ).tmps := Array.ext_getElem? hag
      have h2 : d = (endFrame ops V ms aQ).defers := hF.defers.trans hE.defers.symm
      rw [h1, h2]
    rw [e]
    refine h V w' ⟨hJ.below.os, hJ.below.tape, hJ.below.output, hJ.below.size, hJ.below.block⟩ ⟨fun m hm _ => ?_, fun m hm m' hm' _ _ hd => ?_⟩
    · obtain ⟨oa, hoa, _⟩ := hms.alloc m hm
      obtain ⟨os, _, _, hos, _⟩ := hms.store m hm
      obtain ⟨b, hb, h1, h2, h3, _⟩ := hL.here m hm (hst _ (Array.getElem?_eq_some_iff.1 hoa).1)
      exact ⟨b, hb, h1, h2, fun _ => h3 (hst _ (Array.getElem?_eq_some_iff.1 hos).1), fun h => absurd trivial h⟩
    · obtain ⟨oa, hoa, _⟩ := hms.alloc m hm
      obtain ⟨oa', hoa', _⟩ := hms.alloc m' hm'
      exact hL.apart m hm m' hm' (hst _ (Array.getElem?_eq_some_iff.1 hoa).1) (hst _ (Array.getElem?_eq_some_iff.1 hoa').1) hd
  · intro i
    induction i using Nat.strongRecOn with
    | _ i ih =>
      intro hi
      apply Classical.byContradiction
      intro hn
      have hin : i ∈ Region.ready .any ops listed := by
        refine mem_ready.2 ⟨?_, ops[i], Array.getElem?_eq_getElem hi, fun e he hb => ih e.on (fwdB_spec hfwd (Array.getElem?_eq_getElem hi) he hb) (Nat.lt_trans (fwdB_spec hfwd (Array.getElem?_eq_getElem hi) he hb) hi)⟩
        have hl : i < listed.size := by rw [hJ.size]; exact hi
        simp [hl] at hn ⊢
        exact hn
      rw [hr] at hin
      cases hin
  · have h3 : kindOf o = 0 ∨ kindOf o = 1 ∨ kindOf o = 2 := by unfold kindOf; split <;> simp
    rcases h3 with h3 | h3 | h3
    · exact step_quiet hB hq hms hJ hi ho h3
    · exact step_alloc hB hms hJ hi ho h3
    · exact step_store hB hq0 hms hJ hi ho h3
  · simp
  · refine ⟨by simp, fun j o _ hu => ?_, Below.refl _ _, valQ ops aQ, fun _ _ _ _ => rfl, (Fr.start a0 (valQ ops aQ)).congr (fun j hj => ⟨fun h => h.elim, fun hu => ?_⟩) (fun _ h => h.elim), fun m _ hu => ?_, fun m _ _ _ hu _ _ => ?_⟩
    all_goals (unfold up at hu; rw [getD_rep] at hu; cases hu)
end
end Go.Proofs.Ytdpbjdecbilaeaa
/- The law in the form in which a walk uses it: one new variable, and two. -/
namespace Go.Proofs.Ytdpbjdecbilaeaa
open Go.RowKit
set_option maxRecDepth 100000

section
variable {P : Program} {Q : Exit → Act → World → Prop} {a : Act} {w : World} {l : List Oper} {aQ : Act}

theorem run_alloc_row {o : Oper} {t : TypeId} {z : Array Value} (ho : o.op = .alloc t) (hz : ∀ w : World, (zeroValue t).run P w = .ok (.agg z) w) (ρ : Operand → Value) (w : World) :
    (execOp ρ o).run P w = .ok (.value (.pointer (some ⟨w.heap.size, 0, none⟩))) (w.alloc (.cells z t)) := by
  obtain ⟨dst, op, type, pos, after, guard⟩ := o
  simp only at ho
  subst ho
  simp [execOp, go_sem, hz]
theorem run_store_row {o : Oper} {t : TypeId} {z c : Array Value} {p x : Operand} (ho : o.op = .store t p x) (hi : (P.info? t).map (·.size) = some c.size) (hs : z.size = c.size) (h1 : c.all (·.oneCell') = true)
    (ρ : Operand → Value) (b : Nat) (w : World) (hp : ρ p = .pointer (some ⟨b, 0, none⟩)) (hx : ρ x = .agg c) (hb : w.heap[b]? = some (.cells z t)) : (execOp ρ o).run P w = .ok .skip (w.setRow b c) := by
  obtain ⟨dst, op, type, pos, after, guard⟩ := o
  simp only at ho
  subst ho
  have := run_storeVar_row (P := P) w b t t z c hb hi hs h1
  simp [execOp, Instr.storeAt, Instr.sureAddr, hp, hx, this, Result.andThen]

/-- A new variable: the numbers of its two operations, its type, the slots of its address and of what it is filled with, and its two contents. -/
structure Mk where
  op : Nat
  store : Nat
  type : TypeId
  d : Tmp
  e : Tmp
  zero : Array Value
  full : Array Value

def Mk.made (m : Mk) : Made := ⟨m.op, m.type, m.zero, m.full, m.store⟩
def allocAt (ops : Array Oper) (m : Nat × Nat × TypeId × Tmp × Tmp) : Bool :=
  match ops[m.1]? with
  | some o => o.guard.isNone && (o.dst == some m.2.2.2.1) && (match o.op with | .alloc t => t == m.2.2.1 | _ => false)
  | none => false
def storeAt (ops : Array Oper) (m : Nat × Nat × TypeId × Tmp × Tmp) : Bool :=
  match ops[m.2.1]? with
  | some o => o.guard.isNone && o.dst.isNone && (match o.op with | .store t (.tmp d) (.tmp e) => t == m.2.2.1 && (d == m.2.2.2.1 && e == m.2.2.2.2) | _ => false)
  | none => false
def Mk.key (m : Mk) : Nat × Nat × TypeId × Tmp × Tmp := (m.op, m.store, m.type, m.d, m.e)
/-- All that is asked of the region's text. -/
def mkB (ops : Array Oper) (n : Nat) (ks : List (Nat × Nat × TypeId × Tmp × Tmp)) : Bool :=
  makeB ops && fwdB ops && (ks.all fun m => allocAt ops m && storeAt ops m) &&
  ((List.range ops.size).all fun i => match ops[i]? with | some o => (decide (i < n) == (kindOf o == 0)) && (kindOf o != 1 || ks.any fun m => m.1 == i) && (kindOf o != 2 || ks.any fun m => m.2.1 == i) | none => true) &&
  (ks.all fun m => ks.all fun m' => (m.1 != m'.1 || m == m') && (m.2.1 != m'.2.1 || m == m') && m'.2.2.2.1 != m.2.2.2.2)

theorem allocAt_spec {ops : Array Oper} {m : Nat × Nat × TypeId × Tmp × Tmp} (h : allocAt ops m = true) : ∃ o, ops[m.1]? = some o ∧ o.guard = none ∧ o.dst = some m.2.2.2.1 ∧ o.op = .alloc m.2.2.1 := by
  unfold allocAt at h
  split at h
  · rename_i o ho
    simp only [Bool.and_eq_true, Option.isNone_iff_eq_none, beq_iff_eq] at h
    obtain ⟨⟨h1, h2⟩, h3⟩ := h
    refine ⟨o, ho, h1, h2, ?_⟩
    split at h3
    · rename_i t ht
      rw [ht, beq_iff_eq.1 h3]
    · cases h3
  · cases h
theorem storeAt_spec {ops : Array Oper} {m : Nat × Nat × TypeId × Tmp × Tmp} (h : storeAt ops m = true) : ∃ o, ops[m.2.1]? = some o ∧ o.guard = none ∧ o.dst = none ∧ o.op = .store m.2.2.1 (.tmp m.2.2.2.1) (.tmp m.2.2.2.2) := by
  unfold storeAt at h
  split at h
  · rename_i o ho
    simp only [Bool.and_eq_true, Option.isNone_iff_eq_none] at h
    obtain ⟨⟨h1, h2⟩, h3⟩ := h
    refine ⟨o, ho, h1, h2, ?_⟩
    split at h3
    · rename_i t d e ht
      simp only [Bool.and_eq_true, beq_iff_eq] at h3
      rw [ht, h3.1, h3.2.1, h3.2.2]
    · cases h3
  · cases h

/-- What is asked of each new variable besides. -/
structure MkOk (P : Program) (aQ : Act) (m : Mk) : Prop where
  zero : ∀ w : World, (zeroValue m.type).run P w = .ok (.agg m.zero) w
  info : (P.info? m.type).map (·.size) = some m.full.size
  size : m.zero.size = m.full.size
  one : m.full.all (·.oneCell') = true
  slot : m.d < aQ.tmps.size
  full : aQ.eval (.tmp m.e) = .agg m.full

theorem madeOk {ops : Array Oper} {n : Nat} {ms : List Mk} (hB : mkB ops n (ms.map Mk.key) = true) (hkey : ∀ m ∈ ms, ∀ m' ∈ ms, m.key = m'.key → m = m') (hok : ∀ m ∈ ms, MkOk P aQ m) : MadeOk P ops aQ (ms.map Mk.made) := by
  simp only [mkB, Bool.and_eq_true] at hB
  obtain ⟨⟨⟨⟨hM, _⟩, hks⟩, hops⟩, hone⟩ := hB
  have hat : ∀ m ∈ ms, allocAt ops m.key = true ∧ storeAt ops m.key = true := fun m hm => by
    have := List.all_eq_true.1 hks m.key (List.mem_map.2 ⟨m, hm, rfl⟩)
    simpa using this
  have hdis : ∀ m ∈ ms, ∀ m' ∈ ms, (m.op = m'.op → m = m') ∧ (m.store = m'.store → m = m') ∧ m'.d ≠ m.e := fun m hm m' hm' => by
    have h1 := List.all_eq_true.1 hone m.key (List.mem_map.2 ⟨m, hm, rfl⟩)
    have h2 := List.all_eq_true.1 h1 m'.key (List.mem_map.2 ⟨m', hm', rfl⟩)
    simp only [Bool.and_eq_true, Bool.or_eq_true, bne_iff_ne, beq_iff_eq, ne_eq] at h2
    obtain ⟨⟨h3, h4⟩, h5⟩ := h2
    exact ⟨fun e => hkey m hm m' hm' (h3.resolve_left (fun h => h e)), fun e => hkey m hm m' hm' (h4.resolve_left (fun h => h e)), h5⟩
  have hO := makeB_once hM
  refine ⟨?_, ?_, ?_, ?_, ?_, ?_⟩
  · intro m0 hm0
    obtain ⟨m, hm, rfl⟩ := List.mem_map.1 hm0
    obtain ⟨o, ho, hg, _, hop⟩ := allocAt_spec (hat m hm).1
    exact ⟨o, ho, hg, by unfold kindOf; rw [hop], fun ρ w => run_alloc_row hop (hok m hm).zero ρ w⟩
  · intro m0 hm0
    obtain ⟨m, hm, rfl⟩ := List.mem_map.1 hm0
    obtain ⟨oa, hoa, _, hda, _⟩ := allocAt_spec (hat m hm).1
    obtain ⟨o, ho, hg, hd, hop⟩ := storeAt_spec (hat m hm).2
    have hok' := hok m hm
    refine ⟨o, m.d, .tmp m.e, ho, hg, hd, by unfold kindOf; rw [hop], ?_, hok'.slot, ?_, ?_, ?_, ?_, hok'.full, ?_⟩
    · show (ops[m.key.1]?).bind _ = _
      rw [hoa]; exact hda
    · rw [hop]; simp [Op.operands, Mk.key]
    · rw [hop]; simp [Op.operands, Mk.key]
    · intro m1 hm1 hd1
      obtain ⟨m', hm', rfl⟩ := List.mem_map.1 hm1
      obtain ⟨oa', hoa', _, hda', _⟩ := allocAt_spec (hat m' hm').1
      have hd1' : oa'.dst = some m.d := by
        have : (ops[m'.key.1]?).bind (·.dst) = some m.d := hd1
        rwa [hoa'] at this
      have := hO _ _ _ _ _ hoa' hoa hd1' hda
      rw [(hdis m' hm' m hm).1 this]
    · intro e he m1 hm1 hd1
      obtain ⟨m', hm', rfl⟩ := List.mem_map.1 hm1
      obtain ⟨oa', hoa', _, hda', _⟩ := allocAt_spec (hat m' hm').1
      have hd1' : oa'.dst = some e := by
        have : (ops[m'.key.1]?).bind (·.dst) = some e := hd1
        rwa [hoa'] at this
      rw [hda'] at hd1'
      cases he
      exact (hdis m hm m' hm').2.2 (Option.some.inj hd1')
    · exact fun ρ b w hp hx hb => run_store_row hop hok'.info hok'.size hok'.one ρ b w hp hx hb
  · intro i o ho hk
    have h1 := List.all_eq_true.1 hops i (List.mem_range.2 (Array.getElem?_eq_some_iff.1 ho).1)
    simp only [ho, Bool.and_eq_true, Bool.or_eq_true, bne_iff_ne, ne_eq] at h1
    obtain ⟨m0, hm0, he⟩ := List.any_eq_true.1 (h1.1.2.resolve_left (fun h => h hk))
    obtain ⟨m, hm, rfl⟩ := List.mem_map.1 hm0
    exact ⟨m.made, List.mem_map.2 ⟨m, hm, rfl⟩, beq_iff_eq.1 he⟩
  · intro i o ho hk
    have h1 := List.all_eq_true.1 hops i (List.mem_range.2 (Array.getElem?_eq_some_iff.1 ho).1)
    simp only [ho, Bool.and_eq_true, Bool.or_eq_true, bne_iff_ne, ne_eq] at h1
    obtain ⟨m0, hm0, he⟩ := List.any_eq_true.1 (h1.2.resolve_left (fun h => h hk))
    obtain ⟨m, hm, rfl⟩ := List.mem_map.1 hm0
    exact ⟨m.made, List.mem_map.2 ⟨m, hm, rfl⟩, beq_iff_eq.1 he⟩
  · intro m0 hm0 m1 hm1 he
    obtain ⟨m, hm, rfl⟩ := List.mem_map.1 hm0
    obtain ⟨m', hm', rfl⟩ := List.mem_map.1 hm1
    rw [(hdis m hm m' hm').1 he]
  · intro m0 hm0 m1 hm1 he
    obtain ⟨m, hm, rfl⟩ := List.mem_map.1 hm0
    obtain ⟨m', hm', rfl⟩ := List.mem_map.1 hm1
    rw [(hdis m hm m' hm').2.1 he]

theorem filter_take : ∀ (l : List Oper) (n : Nat), (∀ i o, l[i]? = some o → decide (i < n) = (kindOf o == 0)) → l.filter (kindOf · == 0) = l.take n
  | [], _, _ => by simp
  | o :: l, 0, hk => by
    have h0 : (kindOf o == 0) = false := (hk 0 o rfl).symm
    have ih := filter_take l 0 (fun i o' ho' => by have := hk (i + 1) o' (by simpa using ho'); simpa using this)
    simp [h0, ih]
  | o :: l, n + 1, hk => by
    have h0 : (kindOf o == 0) = true := by rw [← hk 0 o rfl]; simp
    have ih := filter_take l n (fun i o' ho' => by have := hk (i + 1) o' (by simpa using ho'); simpa using this)
    simp [h0, ih]
theorem quietL_take {n : Nat} {ks : List (Nat × Nat × TypeId × Tmp × Tmp)} (hB : mkB l.toArray n ks = true) : quietL l.toArray 0 = l.take n := by
  simp only [mkB, Bool.and_eq_true] at hB
  obtain ⟨⟨⟨_, _⟩, hops⟩, _⟩ := hB
  unfold quietL
  rw [List.drop_zero]
  refine filter_take l n fun i o ho => ?_
  have hlt : i < l.toArray.size := by simpa using (List.getElem?_eq_some_iff.1 ho).1
  have h1 := List.all_eq_true.1 hops i (List.mem_range.2 hlt)
  have ho' : l.toArray[i]? = some o := by simpa using ho
  simp only [ho', Bool.and_eq_true, beq_iff_eq] at h1
  exact h1.1.1

/-- One new variable. -/
theorem region_mk1 {id : Nat} (n : Nat) (m : Mk) (hm : P.follows .mixedOrders = true) (hB : mkB l.toArray n [m.key] = true)
    (hq : ∀ w1 : Ext w.drew, wpQuiet P l.toArray (fun w' => ∃ g : Ext w1.on, w' = g.on) (fun a' => a' = aQ) (l.take n) a) (hok : MkOk P aQ m)
    (h : ∀ (b : Nat) (w' : World), Below w.heap.size w w' → w.heap.size ≤ b → w'.heap[b]? = some (.cells m.full m.type) → Q .normal (aQ.put (some m.d) (.pointer (some ⟨b, 0, none⟩))) w') :
    (Code.region id l.toArray true).wp P Q a w := by
  have hMO := madeOk (P := P) (aQ := aQ) (ms := [m]) (by simpa using hB) (by simp) (by simpa using hok)
  have hB' := hB
  simp only [mkB, Bool.and_eq_true] at hB'
  refine wp_region_make (ms := [m].map Mk.made) hm hB'.1.1.1.1 hB'.1.1.1.2 hMO (fun w1 => by rw [quietL_take hB]; exact hq w1) (fun V w' hb hL => ?_)
  obtain ⟨b, hV, h1, _, h3, _⟩ := hL.here m.made (by simp) trivial
  obtain ⟨oa, hoa, _, hda, _⟩ := allocAt_spec (ops := l.toArray) (m := m.key) (by
    have := List.all_eq_true.1 hB'.1.1.2 m.key (by simp)
    simp only [Bool.and_eq_true] at this
    exact this.1)
  have e : (l.toArray[m.made.op]?).bind (·.dst) = some m.d := by
    show (l.toArray[m.key.1]?).bind _ = _
    rw [hoa]; exact hda
  have := h b w' hb h1 (h3 trivial)
  unfold endFrame
  simp only [List.map_cons, List.map_nil, List.foldl_cons, List.foldl_nil]
  rw [e, hV]
  exact this

/-- Two. -/
theorem region_mk2 {id : Nat} (n : Nat) (m1 m2 : Mk) (hm : P.follows .mixedOrders = true) (hB : mkB l.toArray n [m1.key, m2.key] = true) (hne : m1.op ≠ m2.op)
    (hq : ∀ w1 : Ext w.drew, wpQuiet P l.toArray (fun w' => ∃ g : Ext w1.on, w' = g.on) (fun a' => a' = aQ) (l.take n) a) (hok1 : MkOk P aQ m1) (hok2 : MkOk P aQ m2)
    (h : ∀ (b1 b2 : Nat) (w' : World), Below w.heap.size w w' → w.heap.size ≤ b1 → w.heap.size ≤ b2 → b1 ≠ b2 → w'.heap[b1]? = some (.cells m1.full m1.type) → w'.heap[b2]? = some (.cells m2.full m2.type) →
      Q .normal ((aQ.put (some m1.d) (.pointer (some ⟨b1, 0, none⟩))).put (some m2.d) (.pointer (some ⟨b2, 0, none⟩))) w') :
    (Code.region id l.toArray true).wp P Q a w := by
  have hmm : m1 ≠ m2 := fun e => hne (by rw [e])
  have hkk : m1.key ≠ m2.key := fun e => hne (congrArg (·.1) e)
  have hMO := madeOk (P := P) (aQ := aQ) (ms := [m1, m2]) (by simpa using hB) (fun x hx y hy e => by
    simp only [List.mem_cons, List.not_mem_nil, or_false] at hx hy
    rcases hx with rfl | rfl <;> rcases hy with rfl | rfl
    · rfl
    · exact absurd e hkk
    · exact absurd e.symm hkk
    · rfl) (fun x hx => by
    simp only [List.mem_cons, List.not_mem_nil, or_false] at hx
    rcases hx with rfl | rfl
    · exact hok1
    · exact hok2)
  have hB' := hB
  simp only [mkB, Bool.and_eq_true] at hB'
  refine wp_region_make (ms := [m1, m2].map Mk.made) hm hB'.1.1.1.1 hB'.1.1.1.2 hMO (fun w1 => by rw [quietL_take hB]; exact hq w1) (fun V w' hb hL => ?_)
  obtain ⟨b1, hV1, h1, _, h3, _⟩ := hL.here m1.made (by simp) trivial
  obtain ⟨b2, hV2, h1', _, h3', _⟩ := hL.here m2.made (by simp) trivial
  have hap := hL.apart m1.made (by simp) m2.made (by simp) trivial trivial (fun e => hne (congrArg (·.op) e))
  have hbb : b1 ≠ b2 := fun e => hap (by rw [hV1, hV2, e])
  have dst : ∀ m ∈ [m1, m2], (l.toArray[m.made.op]?).bind (·.dst) = some m.d := fun m hm' => by
    obtain ⟨oa, hoa, _, hda, _⟩ := allocAt_spec (m := m.key) (by
      have := List.all_eq_true.1 hB'.1.1.2 m.key (by
        simp only [List.mem_cons, List.not_mem_nil, or_false] at hm' ⊢
        rcases hm' with rfl | rfl
        · exact .inl rfl
        · exact .inr rfl)
      simp only [Bool.and_eq_true] at this
      exact this.1)
    show (l.toArray[m.key.1]?).bind _ = _
    rw [hoa]; exact hda
  have := h b1 b2 w' hb h1 h1' hbb (h3 trivial) (h3' trivial)
  unfold endFrame
  simp only [List.map_cons, List.map_nil, List.foldl_cons, List.foldl_nil]
  rw [dst m1 (by simp), dst m2 (by simp), hV1, hV2]
  exact this
end
end Go.Proofs.Ytdpbjdecbilaeaa
/- Arrays of integers as functions of their index, and the model's operations on whole arrays, by law. -/
namespace Go.Proofs.Ytdpbjdecbilaeaa
open Go.RowKit
set_option maxRecDepth 100000

/-- n integers: f 0, f 1, .. -/
def arr (k : IntKind) (n : Nat) (f : Nat → Int) : Array Value := ((List.range n).map fun i => Value.int k (f i)).toArray
theorem arr_size (k : IntKind) (n : Nat) (f : Nat → Int) : (arr k n f).size = n := by simp [arr]
theorem arr_get (k : IntKind) {n : Nat} (f : Nat → Int) {i : Nat} (h : i < n) : (arr k n f)[i]? = some (.int k (f i)) := by simp [arr, h]
theorem arr_congr {k : IntKind} {n : Nat} {f g : Nat → Int} (h : ∀ i, i < n → f i = g i) : arr k n f = arr k n g := by
  unfold arr
  congr 1
  exact List.map_congr_left fun i hi => by rw [h i (List.mem_range.1 hi)]
theorem arr_inj {k : IntKind} {n : Nat} {f g : Nat → Int} (h : arr k n f = arr k n g) {i : Nat} (hi : i < n) : f i = g i := by
  have h1 := arr_get k f hi
  rw [h, arr_get k g hi] at h1
  simp at h1
  exact h1.symm
theorem arr_set (k : IntKind) {n : Nat} (f : Nat → Int) {i : Nat} (v : Int) (h : i < n) : (arr k n f).setIfInBounds i (.int k v) = arr k n (fun j => if j = i then v else f j) := by
  apply Array.ext_getElem?
  intro j
  by_cases hj : j < n
  · rw [arr_get k _ hj]
    by_cases e : j = i
    · subst e; rw [Array.getElem?_setIfInBounds_self_of_lt (by rw [arr_size]; exact hj)]; simp
    · rw [Array.getElem?_setIfInBounds_ne (fun h => e h.symm), arr_get k f hj, if_neg e]
  · rw [Array.getElem?_eq_none (by simp [arr_size]; omega), Array.getElem?_eq_none (by simp [arr_size]; omega)]
theorem arr_one (k : IntKind) (n : Nat) (f : Nat → Int) : (arr k n f).all (·.oneCell') = true := by
  unfold arr
  rw [Array.all_eq_true_iff_forall_mem]
  intro v hv
  simp at hv
  obtain ⟨i, _, rfl⟩ := hv
  rfl

section
variable {P : Program} {ops : Array Oper} {Q : Exit → Act → World → Prop} {a : Act} {w : World} {rest : List Oper} {o : Oper}

theorem blk_cell {w : World} {b j : Nat} {c : Array Value} {t : TypeId} {v : Value} (hb : w.heap[b]? = some (.cells c t)) (hv : c[j]? = some v) : w.cell? ⟨b, j, none⟩ = some v := by
  rw [cell_of_row w b j c t (0, 0) hb, hv]
theorem blk_frozen {w : World} {b j : Nat} {c : Array Value} {t : TypeId} (hb : w.heap[b]? = some (.cells c t)) : w.frozen? ⟨b, j, none⟩ = false := by
  simp [World.frozen?, hb]
theorem blk_set {w : World} {b j : Nat} {c : Array Value} {t : TypeId} (hb : w.heap[b]? = some (.cells c t)) (v : Value) : (w.setCell ⟨b, j, none⟩ v).heap[b]? = some (.cells (c.setIfInBounds j v) t) := by
  simp only [World.setCell]
  rw [Array.getElem?_modify, if_pos rfl, hb]
  rfl
theorem blk_other {w : World} {b b' j : Nat} {o : Obj} (hb : w.heap[b']? = some o) (h : b' ≠ b) (v : Value) : (w.setCell ⟨b, j, none⟩ v).heap[b']? = some o := by
  rw [Below.heap_setCell _ _ _ _ h, hb]
theorem blk_alloc {w : World} {b : Nat} {o o' : Obj} (hb : w.heap[b]? = some o) : (w.alloc o').heap[b]? = some o := by
  rw [Below.heap_alloc _ _ _ (Array.getElem?_eq_some_iff.1 hb).1, hb]
theorem blk_row {w : World} {b : Nat} {c c' : Array Value} {t : TypeId} (hb : w.heap[b]? = some (.cells c t)) : (w.setRow b c').heap[b]? = some (.cells c' t) := setRow_heap _ _ _ _ _ _ hb
theorem blk_row_other {w : World} {b b' : Nat} {o : Obj} {c' : Array Value} (hb : w.heap[b']? = some o) (h : b' ≠ b) : (w.setRow b c').heap[b']? = some o := by rw [setRow_other _ _ _ _ h, hb]

/-- A new variable that is an array. -/
theorem wpList_alloc_row (hg : o.guard = none) (t : TypeId) (ho : o.op = .alloc t) (z : Array Value) (hz : ∀ w : World, (zeroValue t).run P w = .ok (.agg z) w)
    (h : wpList P ops Q rest (a.put o.dst (.pointer (some ⟨w.heap.size, 0, none⟩))) (w.alloc (.cells z t))) : wpList P ops Q (o :: rest) a w :=
  wpList_plain hg fun _ hK => by
    unfold Oper.wp
    rw [run_alloc_row ho hz]
    exact hK _ _ h
/-- An array that is stored whole. -/
theorem wpList_store_row (hg : o.guard = none) (t : TypeId) (p x : Operand) (ho : o.op = .store t p x) (b : Nat) (z c : Array Value) (hp : a.eval p = .pointer (some ⟨b, 0, none⟩)) (hx : a.eval x = .agg c) (hb : w.heap[b]? = some (.cells z t))
    (hi : (P.info? t).map (·.size) = some c.size) (hs : z.size = c.size) (h1 : c.all (·.oneCell') = true)
    (h : wpList P ops Q rest (a.put o.dst undef) (w.setRow b c)) : wpList P ops Q (o :: rest) a w :=
  wpList_plain hg fun _ hK => by
    unfold Oper.wp
    rw [run_store_row ho hi hs h1 a.eval b w hp hx hb]
    exact hK _ _ h
theorem run_build_zero {o : Oper} {t : TypeId} {z : Array Value} (ho : o.op = .build t #[]) {n k : Nat} {e : TypeId} (hu : P.underlying t = some (.array n e)) (he : ∀ w : World, (sizeOf e).run P w = .ok k w) (hz : ∀ w : World, (zeroValue t).run P w = .ok (.agg z) w) (ρ : Operand → Value) (w : World) : (execOp ρ o).run P w = .ok (.value (.agg z)) w := by
  obtain ⟨dst, op, type, pos, after, guard⟩ := o
  simp only at ho
  subst ho
  simp [execOp, go_sem, hz, run_underlying hu, he]
theorem wpList_build_zero (hg : o.guard = none) (t : TypeId) (ho : o.op = .build t #[]) {n k : Nat} {e : TypeId} (hu : P.underlying t = some (.array n e)) (he : ∀ w : World, (sizeOf e).run P w = .ok k w) (z : Array Value) (hz : ∀ w : World, (zeroValue t).run P w = .ok (.agg z) w)
    (h : wpList P ops Q rest (a.put o.dst (.agg z)) w) : wpList P ops Q (o :: rest) a w :=
  wpList_plain hg fun _ hK => by
    unfold Oper.wp
    rw [run_build_zero ho hu he hz]
    exact hK _ _ h
/-- A whole array, loaded, in a region that draws its order. -/
theorem quiet_load_row {C : World → Prop} {K : Act → Prop} (t : TypeId) (x : Operand) (ho : o.op = .load t x) (b : Nat) (c : Array Value) {e : TypeId} {n : Nat} (hx : a.eval x = .pointer (some ⟨b, 0, none⟩))
    (hb : ∀ w, C w → w.heap[b]? = some (.cells c t)) (hu : P.underlying t = some (.array n e)) (hi : (P.info? t).map (·.size) = some c.size)
    (hk : K (a.put o.dst (.agg c))) : o.quiet P a C K := by
  refine ⟨.agg c, fun w hw => ?_, hk⟩
  unfold Oper.quietAt
  have h2 : (execOp a.eval o).run P w = .ok (.value (.agg c)) w := by
    unfold execOp
    simp only [ho, hx, Instr.loadAt, Instr.sureAddr, Sem.run_bind, Sem.run_pure, Result.andThen_ok, run_loadVar_row w b t t c (0, 0) _ (hb w hw) hu rfl hi]
  rw [h2]
  exact ⟨rfl, rfl⟩
end
end Go.Proofs.Ytdpbjdecbilaeaa
/- What the functions Of, Word, Add, Neg and Sub of the document's own answers do, for every number: its digits, the word of digits, sums and differences of digits, going round; all older memory is as it was. -/
namespace Go.Proofs.Ytdpbjdecbilaeaa
open Go.RowKit SmWord
set_option maxRecDepth 100000

/-- The digits of n. -/
def da (n : Nat) : Array Value := arr .i64 32 (fun i => ((dig n i : Nat) : Int))
def zD : Array Value := arr .i64 32 (fun _ => 0)
theorem zD_run (w : World) : (zeroValue 40).run Try.prog w = .ok (.agg zD) w := by rw [Try.zeroValue40]; rfl
theorem Try.infoD : (Try.prog.info? 40).map (·.size) = some 32 := by kernel_rfl
theorem infoArr (f : Nat → Int) : (Try.prog.info? 40).map (·.size) = some (arr .i64 32 f).size := by rw [arr_size]; exact Try.infoD
theorem da_congr {m n : Nat} (h : m % M = n % M) : da m = da n := arr_congr fun _ hi => by rw [dig_congr h hi]
theorem wa_lb (n i : Nat) (hi : i < 4) : (wa n)[i]? = some (.int .u64 ((lb n i : Nat) : Int)) := by
  have : i = 0 ∨ i = 1 ∨ i = 2 ∨ i = 3 := by omega
  unfold lb
  rcases this with rfl | rfl | rfl | rfl
  · simp [wa, l0]
  · simp [wa, l1]
  · simp [wa, l2, Nat.div_div_eq_div_mul, Nat.pow_succ]
  · simp [wa, l3, Nat.div_div_eq_div_mul, Nat.pow_succ, Nat.mul_assoc]
theorem dig_of (m k : Nat) : wrap64 ((((lb m (k / 8) : Nat) : Int) / 2 ^ (8 * (k % 8))).tmod 256) = ((dig m k : Nat) : Int) := by
  have e : ((lb m (k / 8) : Nat) : Int) / 2 ^ (8 * (k % 8)) = ((lb m (k / 8) / 2 ^ (8 * (k % 8)) : Nat) : Int) := by
    rw [Int.natCast_ediv, Int.natCast_pow]; rfl
  have h := lb_dig m k
  have h2 := dig_lt m k
  rw [e, Int.tmod_eq_emod_of_nonneg (Int.natCast_nonneg _)]
  have e2 : ((lb m (k / 8) / 2 ^ (8 * (k % 8)) : Nat) : Int) % 256 = ((dig m k : Nat) : Int) := by rw [← h]; rfl
  rw [e2]
  exact IntWalk.wrap64_in _ ⟨by omega, by omega⟩
theorem fill_step (f : Nat → Int) (k : Nat) (hk : k < 32) (v : Int) (hv : v = f k) :
    (arr .i64 32 (fun j => if j < k then f j else 0)).setIfInBounds k (.int .i64 v) = arr .i64 32 (fun j => if j < k + 1 then f j else 0) := by
  rw [arr_set _ _ _ hk]
  refine arr_congr fun i _ => ?_
  by_cases h1 : i = k
  · subst h1; simp [hv]
  · by_cases h2 : i < k
    · simp [h1, h2, show i < k + 1 by omega]
    · simp [h1, h2, show ¬ i < k + 1 by omega]
theorem fill_start (f : Nat → Int) : arr .i64 32 (fun j => if j < 0 then f j else 0) = zD := arr_congr fun i _ => by simp
theorem fill_end (f : Nat → Int) : arr .i64 32 (fun j => if j < 32 then f j else 0) = arr .i64 32 f := arr_congr fun i hi => by simp [hi]

end Go.Proofs.Ytdpbjdecbilaeaa
/- What the method Word of the document's digits does: the word of digits. -/
namespace Go.Proofs.Ytdpbjdecbilaeaa
open Go.RowKit SmWord
set_option maxRecDepth 100000
theorem acc_start (m : Nat) : arr .u64 4 (fun q => ((acc m 32 q : Nat) : Int)) = #[Value.int .u64 0, .int .u64 0, .int .u64 0, .int .u64 0] := by
  have : arr .u64 4 (fun _ => 0) = #[Value.int .u64 0, .int .u64 0, .int .u64 0, .int .u64 0] := rfl
  rw [← this]
  exact arr_congr fun q hq => by rw [acc_end m q hq]; rfl
theorem acc_last (m : Nat) : arr .u64 4 (fun q => ((acc m 0 q : Nat) : Int)) = wa m := by
  apply Array.ext_getElem?
  intro i
  by_cases hi : i < 4
  · rw [arr_get _ _ hi, wa_lb m i hi, acc_zero]
  · rw [Array.getElem?_eq_none (by simp [arr_size]; omega), Array.getElem?_eq_none (by rw [wa_size]; omega)]
theorem acc_val (m j : Nat) : IntKind.u64.wrap (IntKind.u64.wrap (((acc m (j + 1) (j / 8) : Nat) : Int) * 256) + IntKind.u64.wrap ((dig m j : Nat) : Int)) = ((acc m j (j / 8) : Nat) : Int) := by
  obtain ⟨h1, h2⟩ := acc_step m j
  have h3 := dig_lt m j
  rw [IntKind.wrap_u64, IntKind.wrap_u64, IntKind.wrap_u64]
  generalize acc m (j + 1) (j / 8) = x at *
  generalize acc m j (j / 8) = y at *
  generalize dig m j = d at *
  simp only [B] at h2
  omega
theorem acc_put (m j : Nat) (hj : j / 8 < 4) : (arr .u64 4 (fun q => ((acc m (j + 1) q : Nat) : Int))).setIfInBounds (j / 8) (.int .u64 ((acc m j (j / 8) : Nat) : Int)) = arr .u64 4 (fun q => ((acc m j q : Nat) : Int)) := by
  rw [arr_set _ _ _ hj]
  refine arr_congr fun q _ => ?_
  by_cases h : q = j / 8
  · subst h; simp
  · rw [if_neg h, acc_other m j q (fun e => h e.symm)]
theorem Try.infoWa {n : Nat} : (Try.prog.info? 24).map (·.size) = some (wa n).size := by rw [wa_size]; kernel_rfl
theorem wa_one {n : Nat} : (wa n).all (·.oneCell') = true := by simp [wa, Value.oneCell']
set_option maxHeartbeats 2000000 in
theorem word_ref (m : Nat) (w : World) : Calls Try.prog 13 #[.agg (da m)] w fun e w' => e = .returned (wd m) ∧ Below w.heap.size w w' := by
  have hds : (da m).size = 32 := arr_size _ _ _
  go_enter Try.func13, Try.ntmps13
  go_wp2_with fail
  clear hds
  have f0 : (((w.alloc (.cells (da m) 40)).alloc (.cells #[Value.int .u64 0, .int .u64 0, .int .u64 0, .int .u64 0] 24)).alloc (.cells #[Value.int .u64 0, .int .u64 0, .int .u64 0, .int .u64 0] 24)).heap[w.heap.size]? = some (.cells (da m) 40) := blk_alloc (blk_alloc (heap_alloc_new _ _))
  have f1 : (((w.alloc (.cells (da m) 40)).alloc (.cells #[Value.int .u64 0, .int .u64 0, .int .u64 0, .int .u64 0] 24)).alloc (.cells #[Value.int .u64 0, .int .u64 0, .int .u64 0, .int .u64 0] 24)).heap[w.heap.size + 1]? = some (.cells #[Value.int .u64 0, .int .u64 0, .int .u64 0, .int .u64 0] 24) := blk_alloc (heap_alloc2_new _ _ _)
  have f2 : (((w.alloc (.cells (da m) 40)).alloc (.cells #[Value.int .u64 0, .int .u64 0, .int .u64 0, .int .u64 0] 24)).alloc (.cells #[Value.int .u64 0, .int .u64 0, .int .u64 0, .int .u64 0] 24)).heap[w.heap.size + 1 + 1]? = some (.cells #[Value.int .u64 0, .int .u64 0, .int .u64 0, .int .u64 0] 24) := by
    have := heap_alloc_new ((w.alloc (.cells (da m) 40)).alloc (.cells #[Value.int .u64 0, .int .u64 0, .int .u64 0, .int .u64 0] 24)) (.cells #[Value.int .u64 0, .int .u64 0, .int .u64 0, .int .u64 0] 24)
    simpa using this
  have bW : Below w.heap.size w (((w.alloc (.cells (da m) 40)).alloc (.cells #[Value.int .u64 0, .int .u64 0, .int .u64 0, .int .u64 0] 24)).alloc (.cells #[Value.int .u64 0, .int .u64 0, .int .u64 0, .int .u64 0] 24)) := (((Below.refl _ _).alloc (Nat.le_refl _) _).alloc (by simp) _).alloc (by simp; omega) _
  generalize (((w.alloc (.cells (da m) 40)).alloc (.cells #[Value.int .u64 0, .int .u64 0, .int .u64 0, .int .u64 0] 24)).alloc (.cells #[Value.int .u64 0, .int .u64 0, .int .u64 0, .int .u64 0] 24)) = W at *
  go_loopw [4] (fun i wr => ∃ k : Nat, k ≤ 32 ∧ i = .int .i64 ((k : Int) - 1) ∧ Below w.heap.size w wr ∧ wr.heap[w.heap.size]? = some (.cells (da m) 40) ∧ wr.heap[w.heap.size + 1]? = some (.cells #[Value.int .u64 0, .int .u64 0, .int .u64 0, .int .u64 0] 24) ∧
      wr.heap[w.heap.size + 1 + 1]? = some (.cells (arr .u64 4 (fun q => ((acc m k q : Nat) : Int))) 24)) (fun i _ => (intOf i + 1).toNat)
  case atStart => exact ⟨32, Nat.le_refl _, rfl, bW, f0, f1, by rw [acc_start]; exact f2⟩
  case round =>
    obtain ⟨k, hk, rfl, hb, ha, hr, hd⟩ := hrel
    clear f0 f1 f2 bW
    by_cases hlt : 0 < k
    · obtain ⟨j, rfl⟩ : ∃ j, k = j + 1 := ⟨k - 1, by omega⟩
      have e1 : ((j + 1 : Nat) : Int) - 1 = (j : Int) := by omega
      rw [e1]
      have hj4 : j / 8 < 4 := by omega
      have c1 := blk_cell ha (arr_get .i64 _ (show j < 32 by omega))
      have c2 := blk_cell hd (arr_get .u64 _ hj4)
      have c3 := blk_frozen (j := j / 8) hd
      have HA := Lib.hid ha
      have HR := Lib.hid hr
      have HD := Lib.hid hd
      have HB := Lib.hid hb
      have HE := Lib.hid e1
      clear ha hr hd hb e1
      go_wp2_with fail
      go_region
      go_wp2_with fail
      rw [acc_val]
      refine ⟨⟨j, by omega, rfl, (HB.out.setCell (by simp; omega) _).drew, blk_other HA.out (by omega) _, blk_other HR.out (by omega) _, ?_⟩, by simp [intOf]⟩
      rw [← acc_put m j hj4]
      exact blk_set HD.out _
    · obtain rfl : k = 0 := by omega
      rw [acc_last] at hd
      have HB := Lib.hid hb
      clear hb
      go_wp2_with (first | (refine wpList_load_row rfl 24 _ rfl _ rfl 24 (wa m) (0, 0) _ hd Try.underlying24 rfl Try.infoWa ?_) | (refine wpList_store_row rfl 24 _ _ rfl _ #[Value.int .u64 0, .int .u64 0, .int .u64 0, .int .u64 0] (wa m) rfl rfl hr Try.infoWa rfl wa_one ?_))
      refine bodyPost_ret (v := wd m) (results_cell_row rfl _ _ _ 24 (wa m) (0, 0) _ rfl (blk_row hr) Try.underlying24 rfl Try.infoWa) rfl ⟨rfl, below_setRow HB.out (by omega) _⟩
end Go.Proofs.Ytdpbjdecbilaeaa
/- The law for a region whose last operation is a store into a variable that lay before: what comes before it reads, and calls functions that only make new memory. -/
namespace Go.Proofs.Ytdpbjdecbilaeaa
open Go.RowKit
set_option maxRecDepth 100000

section
variable {P : Program} {Q : Exit → Act → World → Prop} {a : Act} {w : World} {l : List Oper} {aQ : Act}

theorem region_last {id : Nat} (n : Nat) (hm : P.follows .mixedOrders = true)
    (hB : (makeB l.toArray && fwdB l.toArray && decide (l.toArray.size = n + 1) && ((List.range n).all fun j => waitsB l.toArray n j && (match l.toArray[j]? with | some o => kindOf o == 0 | none => false)) && (match l.toArray[n]? with | some o => kindOf o == 2 | none => false)) = true)
    (hq : ∀ w1 : Ext w.drew, wpQuiet P l.toArray (fun w' => ∃ g : Ext w1.on, w' = g.on) (fun a' => a' = aQ) (l.take n) a)
    (h : ∀ w' : World, Below w.heap.size w w' → wpList P l.toArray Q (l.drop n) aQ w') : (Code.region id l.toArray true).wp P Q a w := by
  simp only [Bool.and_eq_true, decide_eq_true_eq] at hB
  obtain ⟨⟨⟨⟨hM, hfwd⟩, hsz⟩, hall⟩, hlast⟩ := hB
  have hallj : ∀ j, j < n → waitsB l.toArray n j = true ∧ ∃ o, l.toArray[j]? = some o ∧ kindOf o = 0 := fun j hj => by
    have := List.all_eq_true.1 hall j (List.mem_range.2 hj)
    simp only [Bool.and_eq_true] at this
    refine ⟨this.1, ?_⟩
    have h2 := this.2
    split at h2
    · rename_i o ho; exact ⟨o, ho, by simpa using h2⟩
    · cases h2
  obtain ⟨on, hon, hkn⟩ : ∃ o, l.toArray[n]? = some o ∧ kindOf o = 2 := by
    split at hlast
    · rename_i o ho; exact ⟨o, ho, by simpa using hlast⟩
    · cases hlast
  have hlen : l.length = n + 1 := by simpa using hsz
  have hqL : quietL l.toArray 0 = l.take n := by
    unfold quietL
    rw [List.drop_zero]
    refine filter_take l n fun i o ho => ?_
    by_cases hi : i < n
    · obtain ⟨_, o', ho', hk⟩ := hallj i hi
      have : o' = o := by
        have h1 : l.toArray[i]? = some o := by simpa using ho
        rw [ho'] at h1; exact Option.some.inj h1
      subst this
      simp [hi, hk]
    · have hin : i = n := by have := (List.getElem?_eq_some_iff.1 ho).1; omega
      subst hin
      have : on = o := by
        have h1 : l.toArray[i]? = some o := by simpa using ho
        rw [hon] at h1; exact Option.some.inj h1
      subst this
      simp [hkn]
  have hq' : ∀ w1 : Ext w.drew, wpQuiet P l.toArray (cls w1.on) (fun a' => a' = aQ) (quietL l.toArray 0) a := fun w1 => by rw [hqL]; exact hq w1
  have hdrop : l.drop n = [on] := by
    have hlt : n < l.length := by omega
    rw [List.drop_eq_getElem_cons hlt, List.drop_eq_nil_of_le (by omega)]
    have : l[n] = on := by
      have h1 : l.toArray[n]? = some l[n] := by simp [hlt]
      rw [hon] at h1; exact (Option.some.inj h1).symm
    rw [this]
  refine wp_region_any hm ?_
  refine wpAny_inv (J := fun listed a' w' => listed.size = l.toArray.size ∧ ((¬ up listed n ∧ J l.toArray w.drew a aQ [] listed a' w') ∨ ((∀ i, i < l.toArray.size → up listed i) ∧ Q .normal a' w'))) (fun listed a' w' hJ hal => ?_) (fun _ _ _ hJ => hJ.1) (fun listed a' w' hJ hr => ?_) (fun listed a' w' i o hJ hi ho => ?_) _ _ _ _ ?_ ?_
  · rcases hJ.2 with ⟨hn, _⟩ | ⟨_, hQ⟩
    · exact absurd (hal n (by rw [hsz]; omega)) hn
    · exact hQ
  · rcases hJ.2 with ⟨_, hJ'⟩ | ⟨hal, _⟩
    · intro i
      induction i using Nat.strongRecOn with
      | _ i ih =>
        intro hi
        apply Classical.byContradiction
        intro hn
        have hin : i ∈ Region.ready .any l.toArray listed := by
          refine mem_ready.2 ⟨?_, l.toArray[i], Array.getElem?_eq_getElem hi, fun e he hb => ih e.on (fwdB_spec hfwd (Array.getElem?_eq_getElem hi) he hb) (Nat.lt_trans (fwdB_spec hfwd (Array.getElem?_eq_getElem hi) he hb) hi)⟩
          have hl : i < listed.size := by rw [hJ'.size]; exact hi
          simp [hl] at hn ⊢
          exact hn
        rw [hr] at hin
        cases hin
    · exact hal
  · obtain ⟨hun, _⟩ := mem_ready' hi
    have hilt : i < l.toArray.size := (Array.getElem?_eq_some_iff.1 ho).1
    have hlt : i < listed.size := by rw [hJ.1]; exact hilt
    rcases hJ.2 with ⟨hn, hJ'⟩ | ⟨hal, _⟩
    · by_cases hin : i = n
      · subst hin
        rw [hon] at ho; cases ho
        have hups : ∀ j, j < i → up listed j := fun j hj => by
          obtain ⟨o', ho', e, he, hb, hone⟩ := waitsB_spec (hallj j hj).1
          obtain ⟨_, o2, ho2, hal2⟩ := mem_ready' hi
          rw [ho'] at ho2; cases ho2
          rw [← hone]; exact hal2 e he hb
        obtain ⟨V, hV, hF, _⟩ := hJ'.rest
        have hFQ : Fr l.toArray a (fun j => ∃ o, l.toArray[j]? = some o ∧ kindOf o = 0) V aQ := (aQ_fr hM (hq' ⟨w.drew, Below.refl _ _⟩)).congr (fun _ _ => Iff.rfl) (fun j hj => by obtain ⟨o', ho', hz⟩ := hj; exact (hV j o' ho' hz).symm)
        have ea : a' = aQ := hF.ext (hFQ.congr (fun j hj => ⟨fun hx => by
            obtain ⟨o', ho', hz⟩ := hx
            by_cases hji : j < i
            · exact hups j hji
            · have : j = i := by omega
              subst this
              rw [hon] at ho'; cases ho'; omega, fun hu => by
            by_cases hji : j < i
            · exact (hallj j hji).2
            · have : j = i := by omega
              subst this
              exact absurd hu hn⟩) (fun _ _ => rfl))
        subst ea
        have hb0 := hJ'.below
        have hw := h w' ⟨hb0.os, hb0.tape, hb0.output, hb0.size, hb0.block⟩
        rw [hdrop] at hw
        have hwop : wpOp P l.toArray Q i (fun a w => Q .normal a w) a' w' := by
          unfold wpOp
          simp only [hon]
          unfold wpList at hw
          exact hw
        refine wpOp_mono (fun a2 w2 hQ => ⟨by simp [hJ.1], .inr ⟨fun j hj => (up_set hlt j).2 ?_, hQ⟩⟩) hwop
        by_cases hji : j < i
        · exact .inl (hups j hji)
        · exact .inr (by omega)
      · have hi' : i < n := by omega
        obtain ⟨_, o', ho', hk⟩ := hallj i hi'
        rw [ho] at ho'; cases ho'
        refine wpOp_mono (fun a2 w2 hJ2 => ⟨by simp [hJ.1], .inl ⟨fun hu => ?_, hJ2⟩⟩) (step_quiet' hM hq' (by simp) hJ' hi ho hk)
        rcases (up_set hlt n).1 hu with hu | hu
        · exact hn hu
        · exact hin hu.symm
    · exact absurd (hal i hilt) (not_up hun)
  · simp
  · refine ⟨by simp, .inl ⟨fun hu => ?_, by simp, fun j o _ hu => ?_, Below.refl _ _, valQ l.toArray aQ, fun _ _ _ _ => rfl, (Fr.start a (valQ l.toArray aQ)).congr (fun j hj => ⟨fun h => h.elim, fun hu => ?_⟩) (fun _ h => h.elim), ⟨fun m hm' => absurd hm' (by simp), fun m hm' => absurd hm' (by simp)⟩⟩⟩
    all_goals (unfold up at hu; rw [getD_rep] at hu; cases hu)
end
end Go.Proofs.Ytdpbjdecbilaeaa
/- A region that keeps the order of the text, whose operations read, and call functions that only make new memory: walked as the quiet ones are. -/
namespace Go.Proofs.Ytdpbjdecbilaeaa
open Go.RowKit SmWord

theorem wpList_of_quiet {P : Program} {ops : Array Oper} {C : World → Prop} {Q' : Act → Prop} {Q : Exit → Act → World → Prop} (hQ : ∀ a w, C w → Q' a → Q .normal a w) :
    ∀ (l : List Oper) (a : Act) (w : World), C w → wpQuiet P ops C Q' l a → wpList P ops Q l a w
  | [], _, _, hw, h => hQ _ _ hw h
  | o :: l, a, w, hw, h => by
    unfold wpQuiet at h
    unfold wpList
    split
    · rename_i hwa
      rw [if_pos hwa] at h
      exact .inl (Oper.wp_of_quiet hw (fun a' w' hw' hk => wpList_of_quiet hQ l a' w' hw' hk) h)
    · rename_i hwa
      rw [if_neg hwa] at h
      exact wpList_of_quiet hQ l _ w hw h

theorem region_seq {P : Program} {id : Nat} {Q : Exit → Act → World → Prop} {a : Act} {w : World} {l : List Oper}
    (h : wpQuiet P l.toArray (fun w' => ∃ g : Ext w, w' = g.on) (fun a' => ∀ w', (∃ g : Ext w, w' = g.on) → Q .normal a' w') l a) : (Code.region id l.toArray false).wp P Q a w :=
  wp_region_lit (wpList_of_quiet (C := fun w' => ∃ g : Ext w, w' = g.on) (fun _ w' hw' h => h w' hw') l a w ⟨⟨w, Below.refl _ _⟩, rfl⟩ h)
end Go.Proofs.Ytdpbjdecbilaeaa
/- A word as an argument of a statement: it reads as the four parts of a number. -/
namespace Go.Proofs.Ytdpbjdecbilaeaa
open Go.ChangeShapes Go.WideShapes Go.ChangeAt Go.RowKit SmWord
set_option maxRecDepth 100000

theorem Try.own : ownKnob Try.prog.godebug = none := by kernel_rfl
theorem Try.cellsW : Try.prog.cellsOf 24 = 4 := by kernel_rfl

/-- A word that is written out: 0. -/
def w0000 : Value := .agg #[.int .u64 0, .int .u64 0, .int .u64 0, .int .u64 0]
def dw {H : Type} (n : Nat) : DataW H := .agg [.lit (.int .u64 ((l0 n : Nat) : Int)), .lit (.int .u64 ((l1 n : Nat) : Int)), .lit (.int .u64 ((l2 n : Nat) : Int)), .lit (.int .u64 ((l3 n : Nat) : Int))]

theorem wf_u64 {x : Int} (h : (Lit.int .u64 x).wf = true) : ∃ n : Nat, x = (n : Int) ∧ n < B := by
  have h2 : 0 ≤ x ∧ x ≤ 18446744073709551615 := by simpa [Lit.wf, IntKind.min, IntKind.max, IntKind.signed, IntKind.bits] using h
  exact ⟨x.toNat, by omega, by simp only [B]; omega⟩
theorem nat_wf_u64 {n : Nat} (h : n < B) : (Lit.int .u64 (n : Int)).wf = true := by
  have h2 : (0 : Int) ≤ (n : Int) ∧ (n : Int) ≤ 18446744073709551615 := by simp only [B] at h; omega
  simpa [Lit.wf, IntKind.min, IntKind.max, IntKind.signed, IntKind.bits] using h2

theorem open_word {H : Type} {enc : TypeId × Value → H} {W : World} {base : Nat} {v : Value} {d : DataW H} {p : List MemPlace} {sp : Nat → Bool} {hd : Bool}
    (hv : Value.okWide Try.prog W .any base 24 v) (h : DataW.Trod enc Try.prog W 0 sp hd 24 v d p) : ∃ n : Nat, v = wd n ∧ d = dw n ∧ p = [] := by
  obtain ⟨cs, rfl, hsz, _⟩ : ∃ cs, v = .agg cs ∧ cs.size = Try.prog.cellsOf 24 ∧ Row.okWide Try.prog W .any base 24 cs := by
    simpa [Value.okWide, Try.underlying24] using hv
  rw [Try.cellsW] at hsz
  obtain ⟨c0, c1, c2, c3, rfl⟩ := Joins.array4 hsz
  obtain ⟨fuel, hf⟩ := h
  obtain ⟨y0, y1, y2, y3, m, hx, hy0, hy1, hy2, hy3⟩ := trod_array4 Try.underlying24 Try.cells22 hf
  obtain ⟨x0, e0, rfl, w0⟩ := DataW.trod_int Try.underlying22 hy0
  obtain ⟨x1, e1, rfl, w1⟩ := DataW.trod_int Try.underlying22 hy1
  obtain ⟨x2, e2, rfl, w2⟩ := DataW.trod_int Try.underlying22 hy2
  obtain ⟨x3, e3, rfl, w3⟩ := DataW.trod_int Try.underlying22 hy3
  simp at e0 e1 e2 e3
  subst e0 e1 e2 e3
  simp only [Prod.mk.injEq] at hx
  obtain ⟨rfl, rfl⟩ := hx
  obtain ⟨n0, rfl, b0⟩ := wf_u64 w0
  obtain ⟨n1, rfl, b1⟩ := wf_u64 w1
  obtain ⟨n2, rfl, b2⟩ := wf_u64 w2
  obtain ⟨n3, rfl, b3⟩ := wf_u64 w3
  obtain ⟨h0, h1, h2, h3⟩ := parts_num b0 b1 b2 b3
  refine ⟨num n0 n1 n2 n3, (wd_num b0 b1 b2 b3).symm, ?_, rfl⟩
  unfold dw
  rw [h0, h1, h2, h3]
theorem shut_word {H : Type} {enc : TypeId × Value → H} (n : Nat) (W : World) (sp : Nat → Bool) {base : Nat} {hd : Bool} : DataW.Trod enc Try.prog W base sp hd 24 (wd n) (dw n) [] := by
  obtain ⟨A0, A1, A2, A3⟩ := l_lt n
  exact ⟨2, by simp [DataW.trod, Value.cells, wa, dw, Try.underlying24, Try.underlying22, Try.cellsW, Try.cells22, show List.range 4 = [0, 1, 2, 3] from rfl, nat_wf_u64 A0, nat_wf_u64 A1, nat_wf_u64 A2, nat_wf_u64 A3]⟩
end Go.Proofs.Ytdpbjdecbilaeaa
