/- The law of the text before this one, put together: a region that draws its order, with new variables that it fills. -/
import Derived.Test.YtfpeliolngfkpaaMake
namespace Go.Proofs.Ytfpeliolngfkpaa
open Go.RowKit
set_option maxRecDepth 100000

section
variable {P : Program} {ops : Array Oper} {Q : Exit → Act → World → Prop}

/-- 0: reads or calls; 1: a new variable; 2: a store. -/
def kindOf (o : Oper) : Nat := match o.op with | .alloc _ => 1 | .store _ _ _ => 2 | _ => 0
def waitsB (ops : Array Oper) (i j : Nat) : Bool := match ops[i]? with | some o => o.after.any fun e => Region.binds .any e && e.on == j | none => false

/-- Of two operations: what one of them writes. -/
def pairB (ops : Array Oper) (i j : Nat) (oi oj : Oper) : Bool :=
  match oj.dst with
  | none => true
  | some s => (oi.dst != some s) && (!(oi.looksAt ops).contains s ||
      (if kindOf oi = 0 then kindOf oj == 0 && (if j < i then waitsB ops i j else waitsB ops j i) else decide (j < i) && waitsB ops i j))
def makeB (ops : Array Oper) : Bool :=
  Region.noSelect ops && (List.range ops.size).all fun i => (List.range ops.size).all fun j => decide (i = j) ||
    match ops[i]?, ops[j]? with | some oi, some oj => pairB ops i j oi oj | _, _ => true

theorem makeB_pair (h : makeB ops = true) {i j : Nat} {oi oj : Oper} (hi : ops[i]? = some oi) (hj : ops[j]? = some oj) (hij : i ≠ j) : pairB ops i j oi oj = true := by
  simp only [makeB, Bool.and_eq_true] at h
  have h1 := List.all_eq_true.1 h.2 i (List.mem_range.2 (Array.getElem?_eq_some_iff.1 hi).1)
  have h2 := List.all_eq_true.1 h1 j (List.mem_range.2 (Array.getElem?_eq_some_iff.1 hj).1)
  simp only [Bool.or_eq_true, decide_eq_true_eq, hij, false_or, hi, hj] at h2
  exact h2
theorem makeB_once (h : makeB ops = true) : Once ops := fun i j oi oj s hi hj hs hs' => by
  by_cases hij : i = j
  · exact hij
  · have := makeB_pair h hi hj hij
    simp [pairB, hs, hs'] at this
theorem waitsB_spec {i j : Nat} (h : waitsB ops i j = true) : ∃ o, ops[i]? = some o ∧ ∃ e ∈ o.after, Region.binds .any e = true ∧ e.on = j := by
  unfold waitsB at h
  split at h
  · rename_i o ho
    obtain ⟨e, he, hb⟩ := Array.any_eq_true'.1 h
    simp only [Bool.and_eq_true, beq_iff_eq] at hb
    exact ⟨o, ho, e, he, hb.1, hb.2⟩
  · cases h

/-- The class of worlds: all that lay in w lies as it lay. -/
abbrev cls (w : World) : World → Prop := fun w' => ∃ g : Ext w, w' = g.on

theorem quiet_keeps {C : World → Prop} {aQ : Act} : ∀ (l : List Oper) (a : Act), wpQuiet P ops C (fun a' => a' = aQ) l a →
    a.defers = aQ.defers ∧ a.tmps.size = aQ.tmps.size ∧ ∀ s, (∀ o ∈ l, o.dst ≠ some s) → a.tmps[s]? = aQ.tmps[s]?
  | [], a, h => by cases (h : a = aQ); exact ⟨rfl, rfl, fun _ _ => rfl⟩
  | o :: l, a, h => by
    have key : ∀ v, wpQuiet P ops C (fun a' => a' = aQ) l (a.put o.dst v) → a.defers = aQ.defers ∧ a.tmps.size = aQ.tmps.size ∧ ∀ s, (∀ o' ∈ o :: l, o'.dst ≠ some s) → a.tmps[s]? = aQ.tmps[s]? := fun v hv => by
      obtain ⟨h1, h2, h3⟩ := quiet_keeps l _ hv
      cases hd : o.dst with
      | none =>
        rw [hd] at h1 h2 h3
        exact ⟨h1, h2, fun s hs => h3 s fun o' ho' => hs o' (List.mem_cons_of_mem _ ho')⟩
      | some d =>
        rw [hd] at h1 h2 h3
        refine ⟨h1, by simpa [Act.put] using h2, fun s hs => ?_⟩
        rw [← h3 s fun o' ho' => hs o' (List.mem_cons_of_mem _ ho')]
        have hne : d ≠ s := fun e => hs o (List.mem_cons_self ..) (e ▸ hd)
        simp only [Act.put]
        rw [Array.getElem?_setIfInBounds_ne hne]
    unfold wpQuiet at h
    split at h
    · obtain ⟨v, _, hv⟩ := h
      exact key v hv
    · exact key _ h

def valQ (ops : Array Oper) (aQ : Act) (i : Nat) : Value := match (ops[i]?).bind (·.dst) with | some d => aQ.tmps.getD d undef | none => undef
def quietL (ops : Array Oper) (k : Nat) : List Oper := (ops.toList.drop k).filter (kindOf · == 0)

theorem quietL_step {k : Nat} {o : Oper} (hk : ops[k]? = some o) : quietL ops k = (if kindOf o = 0 then [o] else []) ++ quietL ops (k + 1) := by
  have hlt : k < ops.toList.length := by simpa using (Array.getElem?_eq_some_iff.1 hk).1
  have he : ops.toList[k] = o := by simpa using (Array.getElem?_eq_some_iff.1 hk).2
  unfold quietL
  rw [List.drop_eq_getElem_cons hlt, he, List.filter_cons]
  by_cases h : kindOf o = 0 <;> simp [h]

/-- What the walk in the text's order shows of each quiet operation. -/
theorem quiet_each (hO : Once ops) {C : World → Prop} {a0 aQ : Act} : ∀ (d k : Nat) (a : Act), ops.size - k = d → Fr ops a0 (fun j => j < k ∧ ∃ o, ops[j]? = some o ∧ kindOf o = 0) (valQ ops aQ) a →
    wpQuiet P ops C (fun a' => a' = aQ) (quietL ops k) a →
    ∀ i o, k ≤ i → ops[i]? = some o → kindOf o = 0 → ∃ ai v, Fr ops a0 (fun j => j < i ∧ ∃ o, ops[j]? = some o ∧ kindOf o = 0) (valQ ops aQ) ai ∧ YieldsIn P ops C o v ai ∧ (∀ s, o.dst = some s → s < a0.tmps.size → v = valQ ops aQ i) := by
  intro d
  induction d with
  | zero =>
    intro k a hk _ _ i o hki hi _
    have := (Array.getElem?_eq_some_iff.1 hi).1
    omega
  | succ d ih =>
    intro k a hk hF hq i o hki hi ho
    have hks : k < ops.size := by omega
    obtain ⟨ok, hok⟩ : ∃ ok, ops[k]? = some ok := ⟨ops[k], Array.getElem?_eq_getElem hks⟩
    rw [quietL_step hok] at hq
    by_cases hz : kindOf ok = 0
    · rw [if_pos hz, List.singleton_append] at hq
      have hyk : ∃ v, YieldsIn P ops C ok v a ∧ wpQuiet P ops C (fun a' => a' = aQ) (quietL ops (k + 1)) (a.put ok.dst v) := by
        unfold wpQuiet at hq
        split at hq
        · rename_i hw
          obtain ⟨v, h1, h2⟩ := hq
          exact ⟨v, .inl ⟨hw, h1⟩, h2⟩
        · rename_i hw
          exact ⟨undef, .inr ⟨by simpa using hw, rfl⟩, hq⟩
      obtain ⟨v, hy, hn⟩ := hyk
      have hv : ∀ s, ok.dst = some s → s < a0.tmps.size → v = valQ ops aQ k := fun s hs hlt => by
        obtain ⟨_, _, h3⟩ := quiet_keeps _ _ hn
        have h4 := h3 s fun o' ho' hd => by
          unfold quietL at ho'
          have hm := (List.mem_filter.1 ho').1
          obtain ⟨j, hj⟩ := List.mem_iff_getElem?.1 hm
          rw [List.getElem?_drop] at hj
          have := hO (k + 1 + j) k o' ok s (by simpa using hj) hok hd hs
          omega
        have hlt' : s < a.tmps.size := by rw [hF.size]; exact hlt
        rw [hs] at h4
        simp only [Act.put] at h4
        rw [Array.getElem?_setIfInBounds_self_of_lt hlt'] at h4
        unfold valQ
        simp [hok, hs, ← h4]
      have hput : a.put ok.dst v = a.put ok.dst (valQ ops aQ k) := by
        cases hd : ok.dst with
        | none => rfl
        | some s =>
          by_cases hlt : s < a0.tmps.size
          · rw [hv s hd hlt]
          · have hle : a.tmps.size ≤ s := by rw [hF.size]; exact Nat.not_lt.1 hlt
            simp only [Act.put]
            rw [Array.setIfInBounds_eq_of_size_le hle, Array.setIfInBounds_eq_of_size_le hle]
      by_cases hik : i = k
      · subst hik
        rw [hok] at hi; cases hi
        exact ⟨a, v, hF, hy, hv⟩
      · rw [hput] at hn
        exact ih (k + 1) _ (by omega) ((hF.put hO hok).congr (fun j _ => ⟨fun h => h.elim (fun h => ⟨by omega, h.2⟩) (fun h => by subst h; exact ⟨by omega, ok, hok, hz⟩), fun h => (Nat.lt_succ_iff_lt_or_eq.1 h.1).elim (fun h' => .inl ⟨h', h.2⟩) .inr⟩) (fun _ _ => rfl)) hn i o (by omega) hi ho
    · rw [if_neg hz, List.nil_append] at hq
      have hik : i ≠ k := fun e => by subst e; rw [hok] at hi; cases hi; exact hz ho
      exact ih (k + 1) a (by omega) (hF.congr (fun j _ => ⟨fun h => ⟨by omega, h.2⟩, fun h => ⟨by
        rcases Nat.lt_succ_iff_lt_or_eq.1 h.1 with h' | rfl
        · exact h'
        · obtain ⟨o', ho', hz'⟩ := h.2
          rw [hok] at ho'; cases ho'; exact absurd hz' hz, h.2⟩⟩) (fun _ _ => rfl)) hq i o (by omega) hi ho

theorem eval_same {a a' : Act} {x : Operand} (h : ∀ s, x = .tmp s → a.tmps[s]? = a'.tmps[s]?) : a.eval x = a'.eval x := by
  cases x with
  | tmp s => simp [Act.eval, h s rfl]
  | _ => rfl
theorem exec_same {a a' : Act} (o : Oper) (hs : ∀ cs b, o.op ≠ .select cs b) (h : ∀ s ∈ o.looksAt ops, a.tmps[s]? = a'.tmps[s]?) : execOp a.eval o = execOp a'.eval o :=
  execOp_congr o hs fun x hx => eval_same fun s e => h s (by subst e; exact List.mem_append_left _ (List.mem_filterMap.2 ⟨.tmp s, by simpa using hx, rfl⟩))
theorem wanted_same {a a' : Act} (o : Oper) (h : ∀ s ∈ o.looksAt ops, a.tmps[s]? = a'.tmps[s]?) : Region.wanted o (yielded ops a.tmps) = Region.wanted o (yielded ops a'.tmps) := by
  unfold Region.wanted
  cases hg : o.guard with
  | none => rfl
  | some gw =>
    obtain ⟨g, want⟩ := gw
    have hy : yielded ops a.tmps g = yielded ops a'.tmps g := by
      unfold yielded
      cases ht : (ops[g]?).bind (·.dst) with
      | none => rfl
      | some t => simp only [Option.bind_some]; rw [h t (by simp [Oper.looksAt, hg, ht])]
    simp only [hy]
end
end Go.Proofs.Ytfpeliolngfkpaa
