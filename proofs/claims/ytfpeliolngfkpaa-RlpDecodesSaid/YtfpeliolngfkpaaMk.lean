/- The law in the form in which a walk uses it: one new variable, and two. -/
import Derived.Test.YtfpeliolngfkpaaMakeD
namespace Go.Proofs.Ytfpeliolngfkpaa
open Go.RowKit
set_option maxRecDepth 100000

section
variable {P : Program} {Q : Exit → Act → World → Prop} {a : Act} {w : World} {l : List Oper} {aQ : Act}

theorem run_alloc_row {o : Oper} {t : TypeId} {z : Array Value} (ho : o.op = .alloc t) (hz : ∀ w : World, (zeroValue t).run P w = .ok (.agg z) w) (ρ : Operand → Value) (w : World) :
    (execOp ρ o).run P w = .ok (.value (.pointer (some ⟨w.heap.size, 0, none⟩))) (w.alloc (.cells z t)) := by
  obtain ⟨dst, op, type, pos, after, guard⟩ := o
  simp only at ho
  subst ho
  simp [execOp, go_sem, hz]
theorem run_store_row {o : Oper} {t : TypeId} {z c : Array Value} {p x : Operand} (ho : o.op = .store t p x) (hi : (P.info? t).map (·.size) = some c.size) (hs : z.size = c.size) (h1 : c.all (·.oneCell') = true)
    (ρ : Operand → Value) (b : Nat) (w : World) (hp : ρ p = .pointer (some ⟨b, 0, none⟩)) (hx : ρ x = .agg c) (hb : w.heap[b]? = some (.cells z t)) : (execOp ρ o).run P w = .ok .skip (w.setRow b c) := by
  obtain ⟨dst, op, type, pos, after, guard⟩ := o
  simp only at ho
  subst ho
  have := run_storeVar_row (P := P) w b t t z c hb hi hs h1
  simp [execOp, Instr.storeAt, Instr.sureAddr, hp, hx, this, Result.andThen]

/-- A new variable: the numbers of its two operations, its type, the slots of its address and of what it is filled with, and its two contents. -/
structure Mk where
  op : Nat
  store : Nat
  type : TypeId
  d : Tmp
  e : Tmp
  zero : Array Value
  full : Array Value

def Mk.made (m : Mk) : Made := ⟨m.op, m.type, m.zero, m.full, m.store⟩
def allocAt (ops : Array Oper) (m : Nat × Nat × TypeId × Tmp × Tmp) : Bool :=
  match ops[m.1]? with
  | some o => o.guard.isNone && (o.dst == some m.2.2.2.1) && (match o.op with | .alloc t => t == m.2.2.1 | _ => false)
  | none => false
def storeAt (ops : Array Oper) (m : Nat × Nat × TypeId × Tmp × Tmp) : Bool :=
  match ops[m.2.1]? with
  | some o => o.guard.isNone && o.dst.isNone && (match o.op with | .store t (.tmp d) (.tmp e) => t == m.2.2.1 && (d == m.2.2.2.1 && e == m.2.2.2.2) | _ => false)
  | none => false
def Mk.key (m : Mk) : Nat × Nat × TypeId × Tmp × Tmp := (m.op, m.store, m.type, m.d, m.e)
/-- All that is asked of the region's text. -/
def mkB (ops : Array Oper) (n : Nat) (ks : List (Nat × Nat × TypeId × Tmp × Tmp)) : Bool :=
  makeB ops && fwdB ops && (ks.all fun m => allocAt ops m && storeAt ops m) &&
  ((List.range ops.size).all fun i => match ops[i]? with | some o => (decide (i < n) == (kindOf o == 0)) && (kindOf o != 1 || ks.any fun m => m.1 == i) && (kindOf o != 2 || ks.any fun m => m.2.1 == i) | none => true) &&
  (ks.all fun m => ks.all fun m' => (m.1 != m'.1 || m == m') && (m.2.1 != m'.2.1 || m == m') && m'.2.2.2.1 != m.2.2.2.2)

theorem allocAt_spec {ops : Array Oper} {m : Nat × Nat × TypeId × Tmp × Tmp} (h : allocAt ops m = true) : ∃ o, ops[m.1]? = some o ∧ o.guard = none ∧ o.dst = some m.2.2.2.1 ∧ o.op = .alloc m.2.2.1 := by
  unfold allocAt at h
  split at h
  · rename_i o ho
    simp only [Bool.and_eq_true, Option.isNone_iff_eq_none, beq_iff_eq] at h
    obtain ⟨⟨h1, h2⟩, h3⟩ := h
    refine ⟨o, ho, h1, h2, ?_⟩
    split at h3
    · rename_i t ht
      rw [ht, beq_iff_eq.1 h3]
    · cases h3
  · cases h
theorem storeAt_spec {ops : Array Oper} {m : Nat × Nat × TypeId × Tmp × Tmp} (h : storeAt ops m = true) : ∃ o, ops[m.2.1]? = some o ∧ o.guard = none ∧ o.dst = none ∧ o.op = .store m.2.2.1 (.tmp m.2.2.2.1) (.tmp m.2.2.2.2) := by
  unfold storeAt at h
  split at h
  · rename_i o ho
    simp only [Bool.and_eq_true, Option.isNone_iff_eq_none] at h
    obtain ⟨⟨h1, h2⟩, h3⟩ := h
    refine ⟨o, ho, h1, h2, ?_⟩
    split at h3
    · rename_i t d e ht
      simp only [Bool.and_eq_true, beq_iff_eq] at h3
      rw [ht, h3.1, h3.2.1, h3.2.2]
    · cases h3
  · cases h

/-- What is asked of each new variable besides. -/
structure MkOk (P : Program) (aQ : Act) (m : Mk) : Prop where
  zero : ∀ w : World, (zeroValue m.type).run P w = .ok (.agg m.zero) w
  info : (P.info? m.type).map (·.size) = some m.full.size
  size : m.zero.size = m.full.size
  one : m.full.all (·.oneCell') = true
  slot : m.d < aQ.tmps.size
  full : aQ.eval (.tmp m.e) = .agg m.full

theorem madeOk {ops : Array Oper} {n : Nat} {ms : List Mk} (hB : mkB ops n (ms.map Mk.key) = true) (hkey : ∀ m ∈ ms, ∀ m' ∈ ms, m.key = m'.key → m = m') (hok : ∀ m ∈ ms, MkOk P aQ m) : MadeOk P ops aQ (ms.map Mk.made) := by
  simp only [mkB, Bool.and_eq_true] at hB
  obtain ⟨⟨⟨⟨hM, _⟩, hks⟩, hops⟩, hone⟩ := hB
  have hat : ∀ m ∈ ms, allocAt ops m.key = true ∧ storeAt ops m.key = true := fun m hm => by
    have := List.all_eq_true.1 hks m.key (List.mem_map.2 ⟨m, hm, rfl⟩)
    simpa using this
  have hdis : ∀ m ∈ ms, ∀ m' ∈ ms, (m.op = m'.op → m = m') ∧ (m.store = m'.store → m = m') ∧ m'.d ≠ m.e := fun m hm m' hm' => by
    have h1 := List.all_eq_true.1 hone m.key (List.mem_map.2 ⟨m, hm, rfl⟩)
    have h2 := List.all_eq_true.1 h1 m'.key (List.mem_map.2 ⟨m', hm', rfl⟩)
    simp only [Bool.and_eq_true, Bool.or_eq_true, bne_iff_ne, beq_iff_eq, ne_eq] at h2
    obtain ⟨⟨h3, h4⟩, h5⟩ := h2
    exact ⟨fun e => hkey m hm m' hm' (h3.resolve_left (fun h => h e)), fun e => hkey m hm m' hm' (h4.resolve_left (fun h => h e)), h5⟩
  have hO := makeB_once hM
  refine ⟨?_, ?_, ?_, ?_, ?_, ?_⟩
  · intro m0 hm0
    obtain ⟨m, hm, rfl⟩ := List.mem_map.1 hm0
    obtain ⟨o, ho, hg, _, hop⟩ := allocAt_spec (hat m hm).1
    exact ⟨o, ho, hg, by unfold kindOf; rw [hop], fun ρ w => run_alloc_row hop (hok m hm).zero ρ w⟩
  · intro m0 hm0
    obtain ⟨m, hm, rfl⟩ := List.mem_map.1 hm0
    obtain ⟨oa, hoa, _, hda, _⟩ := allocAt_spec (hat m hm).1
    obtain ⟨o, ho, hg, hd, hop⟩ := storeAt_spec (hat m hm).2
    have hok' := hok m hm
    refine ⟨o, m.d, .tmp m.e, ho, hg, hd, by unfold kindOf; rw [hop], ?_, hok'.slot, ?_, ?_, ?_, ?_, hok'.full, ?_⟩
    · show (ops[m.key.1]?).bind _ = _
      rw [hoa]; exact hda
    · rw [hop]; simp [Op.operands, Mk.key]
    · rw [hop]; simp [Op.operands, Mk.key]
    · intro m1 hm1 hd1
      obtain ⟨m', hm', rfl⟩ := List.mem_map.1 hm1
      obtain ⟨oa', hoa', _, hda', _⟩ := allocAt_spec (hat m' hm').1
      have hd1' : oa'.dst = some m.d := by
        have : (ops[m'.key.1]?).bind (·.dst) = some m.d := hd1
        rwa [hoa'] at this
      have := hO _ _ _ _ _ hoa' hoa hd1' hda
      rw [(hdis m' hm' m hm).1 this]
    · intro e he m1 hm1 hd1
      obtain ⟨m', hm', rfl⟩ := List.mem_map.1 hm1
      obtain ⟨oa', hoa', _, hda', _⟩ := allocAt_spec (hat m' hm').1
      have hd1' : oa'.dst = some e := by
        have : (ops[m'.key.1]?).bind (·.dst) = some e := hd1
        rwa [hoa'] at this
      rw [hda'] at hd1'
      cases he
      exact (hdis m hm m' hm').2.2 (Option.some.inj hd1')
    · exact fun ρ b w hp hx hb => run_store_row hop hok'.info hok'.size hok'.one ρ b w hp hx hb
  · intro i o ho hk
    have h1 := List.all_eq_true.1 hops i (List.mem_range.2 (Array.getElem?_eq_some_iff.1 ho).1)
    simp only [ho, Bool.and_eq_true, Bool.or_eq_true, bne_iff_ne, ne_eq] at h1
    obtain ⟨m0, hm0, he⟩ := List.any_eq_true.1 (h1.1.2.resolve_left (fun h => h hk))
    obtain ⟨m, hm, rfl⟩ := List.mem_map.1 hm0
    exact ⟨m.made, List.mem_map.2 ⟨m, hm, rfl⟩, beq_iff_eq.1 he⟩
  · intro i o ho hk
    have h1 := List.all_eq_true.1 hops i (List.mem_range.2 (Array.getElem?_eq_some_iff.1 ho).1)
    simp only [ho, Bool.and_eq_true, Bool.or_eq_true, bne_iff_ne, ne_eq] at h1
    obtain ⟨m0, hm0, he⟩ := List.any_eq_true.1 (h1.2.resolve_left (fun h => h hk))
    obtain ⟨m, hm, rfl⟩ := List.mem_map.1 hm0
    exact ⟨m.made, List.mem_map.2 ⟨m, hm, rfl⟩, beq_iff_eq.1 he⟩
  · intro m0 hm0 m1 hm1 he
    obtain ⟨m, hm, rfl⟩ := List.mem_map.1 hm0
    obtain ⟨m', hm', rfl⟩ := List.mem_map.1 hm1
    rw [(hdis m hm m' hm').1 he]
  · intro m0 hm0 m1 hm1 he
    obtain ⟨m, hm, rfl⟩ := List.mem_map.1 hm0
    obtain ⟨m', hm', rfl⟩ := List.mem_map.1 hm1
    rw [(hdis m hm m' hm').2.1 he]

theorem filter_take : ∀ (l : List Oper) (n : Nat), (∀ i o, l[i]? = some o → decide (i < n) = (kindOf o == 0)) → l.filter (kindOf · == 0) = l.take n
  | [], _, _ => by simp
  | o :: l, 0, hk => by
    have h0 : (kindOf o == 0) = false := (hk 0 o rfl).symm
    have ih := filter_take l 0 (fun i o' ho' => by have := hk (i + 1) o' (by simpa using ho'); simpa using this)
    simp [h0, ih]
  | o :: l, n + 1, hk => by
    have h0 : (kindOf o == 0) = true := by rw [← hk 0 o rfl]; simp
    have ih := filter_take l n (fun i o' ho' => by have := hk (i + 1) o' (by simpa using ho'); simpa using this)
    simp [h0, ih]
theorem quietL_take {n : Nat} {ks : List (Nat × Nat × TypeId × Tmp × Tmp)} (hB : mkB l.toArray n ks = true) : quietL l.toArray 0 = l.take n := by
  simp only [mkB, Bool.and_eq_true] at hB
  obtain ⟨⟨⟨_, _⟩, hops⟩, _⟩ := hB
  unfold quietL
  rw [List.drop_zero]
  refine filter_take l n fun i o ho => ?_
  have hlt : i < l.toArray.size := by simpa using (List.getElem?_eq_some_iff.1 ho).1
  have h1 := List.all_eq_true.1 hops i (List.mem_range.2 hlt)
  have ho' : l.toArray[i]? = some o := by simpa using ho
  simp only [ho', Bool.and_eq_true, beq_iff_eq] at h1
  exact h1.1.1

/-- One new variable. -/
theorem region_mk1 {id : Nat} (n : Nat) (m : Mk) (hm : P.follows .mixedOrders = true) (hB : mkB l.toArray n [m.key] = true)
    (hq : ∀ w1 : Ext w.drew, wpQuiet P l.toArray (fun w' => ∃ g : Ext w1.on, w' = g.on) (fun a' => a' = aQ) (l.take n) a) (hok : MkOk P aQ m)
    (h : ∀ (b : Nat) (w' : World), Below w.heap.size w w' → w.heap.size ≤ b → w'.heap[b]? = some (.cells m.full m.type) → Q .normal (aQ.put (some m.d) (.pointer (some ⟨b, 0, none⟩))) w') :
    (Code.region id l.toArray true).wp P Q a w := by
  have hMO := madeOk (P := P) (aQ := aQ) (ms := [m]) (by simpa using hB) (by simp) (by simpa using hok)
  have hB' := hB
  simp only [mkB, Bool.and_eq_true] at hB'
  refine wp_region_make (ms := [m].map Mk.made) hm hB'.1.1.1.1 hB'.1.1.1.2 hMO (fun w1 => by rw [quietL_take hB]; exact hq w1) (fun V w' hb hL => ?_)
  obtain ⟨b, hV, h1, _, h3, _⟩ := hL.here m.made (by simp) trivial
  obtain ⟨oa, hoa, _, hda, _⟩ := allocAt_spec (ops := l.toArray) (m := m.key) (by
    have := List.all_eq_true.1 hB'.1.1.2 m.key (by simp)
    simp only [Bool.and_eq_true] at this
    exact this.1)
  have e : (l.toArray[m.made.op]?).bind (·.dst) = some m.d := by
    show (l.toArray[m.key.1]?).bind _ = _
    rw [hoa]; exact hda
  have := h b w' hb h1 (h3 trivial)
  unfold endFrame
  simp only [List.map_cons, List.map_nil, List.foldl_cons, List.foldl_nil]
  rw [e, hV]
  exact this

/-- Two. -/
theorem region_mk2 {id : Nat} (n : Nat) (m1 m2 : Mk) (hm : P.follows .mixedOrders = true) (hB : mkB l.toArray n [m1.key, m2.key] = true) (hne : m1.op ≠ m2.op)
    (hq : ∀ w1 : Ext w.drew, wpQuiet P l.toArray (fun w' => ∃ g : Ext w1.on, w' = g.on) (fun a' => a' = aQ) (l.take n) a) (hok1 : MkOk P aQ m1) (hok2 : MkOk P aQ m2)
    (h : ∀ (b1 b2 : Nat) (w' : World), Below w.heap.size w w' → w.heap.size ≤ b1 → w.heap.size ≤ b2 → b1 ≠ b2 → w'.heap[b1]? = some (.cells m1.full m1.type) → w'.heap[b2]? = some (.cells m2.full m2.type) →
      Q .normal ((aQ.put (some m1.d) (.pointer (some ⟨b1, 0, none⟩))).put (some m2.d) (.pointer (some ⟨b2, 0, none⟩))) w') :
    (Code.region id l.toArray true).wp P Q a w := by
  have hmm : m1 ≠ m2 := fun e => hne (by rw [e])
  have hkk : m1.key ≠ m2.key := fun e => hne (congrArg (·.1) e)
  have hMO := madeOk (P := P) (aQ := aQ) (ms := [m1, m2]) (by simpa using hB) (fun x hx y hy e => by
    simp only [List.mem_cons, List.not_mem_nil, or_false] at hx hy
    rcases hx with rfl | rfl <;> rcases hy with rfl | rfl
    · rfl
    · exact absurd e hkk
    · exact absurd e.symm hkk
    · rfl) (fun x hx => by
    simp only [List.mem_cons, List.not_mem_nil, or_false] at hx
    rcases hx with rfl | rfl
    · exact hok1
    · exact hok2)
  have hB' := hB
  simp only [mkB, Bool.and_eq_true] at hB'
  refine wp_region_make (ms := [m1, m2].map Mk.made) hm hB'.1.1.1.1 hB'.1.1.1.2 hMO (fun w1 => by rw [quietL_take hB]; exact hq w1) (fun V w' hb hL => ?_)
  obtain ⟨b1, hV1, h1, _, h3, _⟩ := hL.here m1.made (by simp) trivial
  obtain ⟨b2, hV2, h1', _, h3', _⟩ := hL.here m2.made (by simp) trivial
  have hap := hL.apart m1.made (by simp) m2.made (by simp) trivial trivial (fun e => hne (congrArg (·.op) e))
  have hbb : b1 ≠ b2 := fun e => hap (by rw [hV1, hV2, e])
  have dst : ∀ m ∈ [m1, m2], (l.toArray[m.made.op]?).bind (·.dst) = some m.d := fun m hm' => by
    obtain ⟨oa, hoa, _, hda, _⟩ := allocAt_spec (m := m.key) (by
      have := List.all_eq_true.1 hB'.1.1.2 m.key (by
        simp only [List.mem_cons, List.not_mem_nil, or_false] at hm' ⊢
        rcases hm' with rfl | rfl
        · exact .inl rfl
        · exact .inr rfl)
      simp only [Bool.and_eq_true] at this
      exact this.1)
    show (l.toArray[m.key.1]?).bind _ = _
    rw [hoa]; exact hda
  have := h b1 b2 w' hb h1 h1' hbb (h3 trivial) (h3' trivial)
  unfold endFrame
  simp only [List.map_cons, List.map_nil, List.foldl_cons, List.foldl_nil]
  rw [dst m1 (by simp), dst m2 (by simp), hV1, hV2]
  exact this
end
end Go.Proofs.Ytfpeliolngfkpaa
