/- A law of the model: a region that draws its order, whose first operations read, or call functions that only make new memory, and whose others make new variables and fill them: whatever the order, it comes to one frame, but for where the new variables lie. -/
import Derived.Test.YtfpeliolngfkpaaArr
namespace Go.Proofs.Ytfpeliolngfkpaa
open Go.RowKit
set_option maxRecDepth 100000

section
variable {P : Program} {ops : Array Oper} {Q : Exit → Act → World → Prop}

theorem mem_ready' {md : Region.Mode} {listed : Array Bool} {i : Nat} (h : i ∈ Region.ready md ops listed) :
    listed.getD i true = false ∧ ∃ o, ops[i]? = some o ∧ ∀ e ∈ o.after, Region.binds md e = true → listed.getD e.on false = true := mem_ready.1 h

/-- What holds at the start and is handed on by each operation that may come up holds at the end. -/
theorem wpAny_inv {md : Region.Mode} {J : Array Bool → Act → World → Prop} (hend : ∀ listed a w, J listed a w → (∀ i, i < ops.size → listed.getD i false = true) → Q .normal a w)
    (hsz : ∀ listed a w, J listed a w → listed.size = ops.size)
    (hall : ∀ listed a w, J listed a w → Region.ready md ops listed = [] → ∀ i, i < ops.size → listed.getD i false = true)
    (hstep : ∀ listed a w i o, J listed a w → i ∈ Region.ready md ops listed → ops[i]? = some o → wpOp P ops Q i (J (listed.setIfInBounds i true)) a w) :
    ∀ (fuel : Nat) (listed : Array Bool) (a : Act) (w : World), listed.toList.count false ≤ fuel → J listed a w → wpAny P md ops Q fuel listed a w := by
  intro fuel
  induction fuel with
  | zero =>
    intro listed a w hc hJ
    have hr : Region.ready md ops listed = [] := by
      apply List.eq_nil_iff_forall_not_mem.2
      intro i hi
      obtain ⟨h1, o, ho, _⟩ := mem_ready' hi
      have hlt : i < listed.size := by rw [hsz _ _ _ hJ]; exact (Array.getElem?_eq_some_iff.1 ho).1
      have : false ∈ listed.toList := by
        simp [hlt] at h1
        rw [← h1]
        exact Array.getElem_mem_toList hlt
      have := List.count_pos_iff.2 this
      omega
    exact ⟨hr, hend _ _ _ hJ (hall _ _ _ hJ hr)⟩
  | succ fuel ih =>
    intro listed a w hc hJ
    refine ⟨fun hr => hend _ _ _ hJ (hall _ _ _ hJ hr), fun i hi => ?_⟩
    obtain ⟨h1, o, ho, _⟩ := mem_ready' hi
    have hlt : i < listed.size := by rw [hsz _ _ _ hJ]; exact (Array.getElem?_eq_some_iff.1 ho).1
    have hl : listed[i] = false := by simpa [hlt] using h1
    refine wpOp_mono (fun a' w' hJ' => ih _ a' w' ?_ hJ') (hstep _ _ _ i o hJ hi ho)
    have hcnt : (listed.setIfInBounds i true).toList.count false + 1 = listed.toList.count false := by
      rw [Array.toList_setIfInBounds]
      have hl' : listed.toList[i] = false := by simpa using hl
      have hlt' : i < listed.toList.length := by simpa using hlt
      have hp : 0 < List.count false listed.toList := List.count_pos_iff.2 (by rw [← hl']; exact List.getElem_mem hlt')
      rw [List.count_set hlt', hl', if_pos (by rfl), if_neg (by decide)]
      omega
    omega

/-- The frame a is a0 but for what the operations in L have written: V. -/
structure Fr (ops : Array Oper) (a0 : Act) (L : Nat → Prop) (V : Nat → Value) (a : Act) : Prop where
  defers : a.defers = a0.defers
  size : a.tmps.size = a0.tmps.size
  done : ∀ j o s, ops[j]? = some o → o.dst = some s → L j → s < a0.tmps.size → a.tmps[s]? = some (V j)
  rest : ∀ s, (∀ j o, ops[j]? = some o → L j → o.dst ≠ some s) → a.tmps[s]? = a0.tmps[s]?

/-- No two operations write one slot. -/
def Once (ops : Array Oper) : Prop := ∀ (i j : Nat) (oi oj : Oper) (s : Tmp), ops[i]? = some oi → ops[j]? = some oj → oi.dst = some s → oj.dst = some s → i = j

theorem Fr.start (a0 : Act) (V : Nat → Value) : Fr ops a0 (fun _ => False) V a0 := ⟨rfl, rfl, fun _ _ _ _ _ h => h.elim, fun _ _ => rfl⟩
theorem Fr.congr {a0 a : Act} {L L' : Nat → Prop} {V V' : Nat → Value} (h : Fr ops a0 L V a) (hL : ∀ j, j < ops.size → (L j ↔ L' j)) (hV : ∀ j, L j → V j = V' j) : Fr ops a0 L' V' a :=
  ⟨h.defers, h.size, fun j o s hj hs hl hlt => by
      have hjs := (Array.getElem?_eq_some_iff.1 hj).1
      rw [← hV j ((hL j hjs).2 hl)]; exact h.done j o s hj hs ((hL j hjs).2 hl) hlt,
    fun s hs => h.rest s fun j o hj hl => hs j o hj ((hL j (Array.getElem?_eq_some_iff.1 hj).1).1 hl)⟩
theorem Fr.put (hO : Once ops) {a0 a : Act} {L : Nat → Prop} {V : Nat → Value} (h : Fr ops a0 L V a) {i : Nat} {o : Oper} (hi : ops[i]? = some o) :
    Fr ops a0 (fun j => L j ∨ j = i) V (a.put o.dst (V i)) := by
  cases hd : o.dst with
  | none =>
    refine ⟨h.defers, h.size, fun j oj s hj hs hl hlt => ?_, fun s hs => h.rest s fun j oj hj hl => hs j oj hj (Or.inl hl)⟩
    rcases hl with hl | rfl
    · exact h.done j oj s hj hs hl hlt
    · rw [hi] at hj; cases hj; rw [hd] at hs; cases hs
  | some d =>
    refine ⟨h.defers, by simp [Act.put, h.size], fun j oj s hj hs hl hlt => ?_, fun s hs => ?_⟩
    · by_cases hji : j = i
      · subst hji
        rw [hi] at hj; cases hj
        rw [hd] at hs; cases hs
        simp only [Act.put]
        rw [Array.getElem?_setIfInBounds_self_of_lt (by rw [h.size]; exact hlt)]
      · have hne : d ≠ s := fun e => hji (hO j i oj o s hj hi hs (e ▸ hd))
        simp only [Act.put]
        rw [Array.getElem?_setIfInBounds_ne hne]
        exact h.done j oj s hj hs (hl.resolve_right hji) hlt
    · have hne : d ≠ s := fun e => hs i o hi (Or.inr rfl) (e ▸ hd)
      simp only [Act.put]
      rw [Array.getElem?_setIfInBounds_ne hne]
      exact h.rest s fun j oj hj hl => hs j oj hj (Or.inl hl)
theorem Fr.agree {a0 a a' : Act} {L L' : Nat → Prop} {V : Nat → Value} (h : Fr ops a0 L V a) (h' : Fr ops a0 L' V a') {s : Nat} (hs : ∀ j o, ops[j]? = some o → o.dst = some s → (L j ↔ L' j)) : a.tmps[s]? = a'.tmps[s]? := by
  by_cases hex : ∃ j o, ops[j]? = some o ∧ o.dst = some s ∧ L j
  · obtain ⟨j, o, hj, hd, hl⟩ := hex
    by_cases hlt : s < a0.tmps.size
    · rw [h.done j o s hj hd hl hlt, h'.done j o s hj hd ((hs j o hj hd).1 hl) hlt]
    · rw [Array.getElem?_eq_none (by rw [h.size]; omega), Array.getElem?_eq_none (by rw [h'.size]; omega)]
  · rw [h.rest s fun j o hj hl hd => hex ⟨j, o, hj, hd, hl⟩, h'.rest s fun j o hj hl hd => hex ⟨j, o, hj, hd, (hs j o hj hd).2 hl⟩]
theorem Fr.ext {a0 a a' : Act} {L : Nat → Prop} {V : Nat → Value} (h : Fr ops a0 L V a) (h' : Fr ops a0 L V a') : a = a' := by
  obtain ⟨t, d⟩ := a
  obtain ⟨t', d'⟩ := a'
  have e1 : d = d' := h.defers.trans h'.defers.symm
  have e2 : t = t' := Array.ext_getElem? fun s => h.agree h' fun _ _ _ _ => Iff.rfl
  rw [e1, e2]
end
end Go.Proofs.Ytfpeliolngfkpaa
