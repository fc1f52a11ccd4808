/- The law in the form in which a walk uses it: one new variable, and two. -/
import Derived.Test.YtnjeoeekidnffaaGreatN1
import Derived.Test.YtnjeoeekidnffaaGreatN0
import Derived.LoopN
import Derived.Lib.Hide
namespace Go.Proofs.YtnjeoeekidnffaaGreat
open Go.RowKit
set_option maxRecDepth 100000

section
variable {P : Program} {Q : Exit → Act → World → Prop} {a : Act} {w : World} {l : List Oper} {aQ : Act}

theorem run_alloc_row {o : Oper} {t : TypeId} {z : Array Value} (ho : o.op = .alloc t) (hz : ∀ w : World, (zeroValue t).run P w = .ok (.agg z) w) (ρ : Operand → Value) (w : World) :
    (execOp ρ o).run P w = .ok (.value (.pointer (some ⟨w.heap.size, 0, none⟩))) (w.alloc (.cells z t)) := by
  obtain ⟨dst, op, type, pos, after, guard⟩ := o
  simp only at ho
  subst ho
  simp [execOp, go_sem, hz]
theorem run_store_row {o : Oper} {t : TypeId} {z c : Array Value} {p x : Operand} (ho : o.op = .store t p x) (hi : (P.info? t).map (·.size) = some c.size) (hs : z.size = c.size) (h1 : c.all (·.oneCell') = true)
    (ρ : Operand → Value) (b : Nat) (w : World) (hp : ρ p = .pointer (some ⟨b, 0, none⟩)) (hx : ρ x = .agg c) (hb : w.heap[b]? = some (.cells z t)) : (execOp ρ o).run P w = .ok .skip (w.setRow b c) := by
  obtain ⟨dst, op, type, pos, after, guard⟩ := o
  simp only at ho
  subst ho
  have := run_storeVar_row (P := P) w b t t z c hb hi hs h1
  simp [execOp, Instr.storeAt, Instr.sureAddr, hp, hx, this, Result.andThen]

/-- A new variable: the numbers of its two operations, its type, the slots of its address and of what it is filled with, and its two contents. -/
structure Mk where
  op : Nat
  store : Nat
  type : TypeId
  d : Tmp
  e : Tmp
  zero : Array Value
  full : Array Value

def Mk.made (m : Mk) : Made := ⟨m.op, m.type, m.zero, m.full, m.store⟩
def allocAt (ops : Array Oper) (m : Nat × Nat × TypeId × Tmp × Tmp) : Bool :=
  match ops[m.1]? with
  | some o => o.guard.isNone && (o.dst == some m.2.2.2.1) && (match o.op with | .alloc t => t == m.2.2.1 | _ => false)
  | none => false
def storeAt (ops : Array Oper) (m : Nat × Nat × TypeId × Tmp × Tmp) : Bool :=
  match ops[m.2.1]? with
  | some o => o.guard.isNone && o.dst.isNone && (match o.op with | .store t (.tmp d) (.tmp e) => t == m.2.2.1 && (d == m.2.2.2.1 && e == m.2.2.2.2) | _ => false)
  | none => false
def Mk.key (m : Mk) : Nat × Nat × TypeId × Tmp × Tmp := (m.op, m.store, m.type, m.d, m.e)
/-- All that is asked of the region's text. -/
def mkB (ops : Array Oper) (n : Nat) (ks : List (Nat × Nat × TypeId × Tmp × Tmp)) : Bool :=
  makeB ops && fwdB ops && (ks.all fun m => allocAt ops m && storeAt ops m) &&
  ((List.range ops.size).all fun i => match ops[i]? with | some o => (decide (i < n) == (kindOf o == 0)) && (kindOf o != 1 || ks.any fun m => m.1 == i) && (kindOf o != 2 || ks.any fun m => m.2.1 == i) | none => true) &&
  (ks.all fun m => ks.all fun m' => (m.1 != m'.1 || m == m') && (m.2.1 != m'.2.1 || m == m') && m'.2.2.2.1 != m.2.2.2.2)

theorem allocAt_spec {ops : Array Oper} {m : Nat × Nat × TypeId × Tmp × Tmp} (h : allocAt ops m = true) : ∃ o, ops[m.1]? = some o ∧ o.guard = none ∧ o.dst = some m.2.2.2.1 ∧ o.op = .alloc m.2.2.1 := by
  unfold allocAt at h
  split at h
  · rename_i o ho
    simp only [Bool.and_eq_true, Option.isNone_iff_eq_none, beq_iff_eq] at h
    obtain ⟨⟨h1, h2⟩, h3⟩ := h
    refine ⟨o, ho, h1, h2, ?_⟩
    split at h3
    · rename_i t ht
      rw [ht, beq_iff_eq.1 h3]
    · cases h3
  · cases h
theorem storeAt_spec {ops : Array Oper} {m : Nat × Nat × TypeId × Tmp × Tmp} (h : storeAt ops m = true) : ∃ o, ops[m.2.1]? = some o ∧ o.guard = none ∧ o.dst = none ∧ o.op = .store m.2.2.1 (.tmp m.2.2.2.1) (.tmp m.2.2.2.2) := by
  unfold storeAt at h
  split at h
  · rename_i o ho
    simp only [Bool.and_eq_true, Option.isNone_iff_eq_none] at h
    obtain ⟨⟨h1, h2⟩, h3⟩ := h
    refine ⟨o, ho, h1, h2, ?_⟩
    split at h3
    · rename_i t d e ht
      simp only [Bool.and_eq_true, beq_iff_eq] at h3
      rw [ht, h3.1, h3.2.1, h3.2.2]
    · cases h3
  · cases h

/-- What is asked of each new variable besides. -/
structure MkOk (P : Program) (aQ : Act) (m : Mk) : Prop where
  zero : ∀ w : World, (zeroValue m.type).run P w = .ok (.agg m.zero) w
  info : (P.info? m.type).map (·.size) = some m.full.size
  size : m.zero.size = m.full.size
  one : m.full.all (·.oneCell') = true
  slot : m.d < aQ.tmps.size
  full : aQ.eval (.tmp m.e) = .agg m.full

theorem madeOk {ops : Array Oper} {n : Nat} {ms : List Mk} (hB : mkB ops n (ms.map Mk.key) = true) (hkey : ∀ m ∈ ms, ∀ m' ∈ ms, m.key = m'.key → m = m') (hok : ∀ m ∈ ms, MkOk P aQ m) : MadeOk P ops aQ (ms.map Mk.made) := by
  simp only [mkB, Bool.and_eq_true] at hB
  obtain ⟨⟨⟨⟨hM, _⟩, hks⟩, hops⟩, hone⟩ := hB
  have hat : ∀ m ∈ ms, allocAt ops m.key = true ∧ storeAt ops m.key = true := fun m hm => by
    have := List.all_eq_true.1 hks m.key (List.mem_map.2 ⟨m, hm, rfl⟩)
    simpa using this
  have hdis : ∀ m ∈ ms, ∀ m' ∈ ms, (m.op = m'.op → m = m') ∧ (m.store = m'.store → m = m') ∧ m'.d ≠ m.e := fun m hm m' hm' => by
    have h1 := List.all_eq_true.1 hone m.key (List.mem_map.2 ⟨m, hm, rfl⟩)
    have h2 := List.all_eq_true.1 h1 m'.key (List.mem_map.2 ⟨m', hm', rfl⟩)
    simp only [Bool.and_eq_true, Bool.or_eq_true, bne_iff_ne, beq_iff_eq, ne_eq] at h2
    obtain ⟨⟨h3, h4⟩, h5⟩ := h2
    exact ⟨fun e => hkey m hm m' hm' (h3.resolve_left (fun h => h e)), fun e => hkey m hm m' hm' (h4.resolve_left (fun h => h e)), h5⟩
  have hO := makeB_once hM
  refine ⟨?_, ?_, ?_, ?_, ?_, ?_⟩
  · intro m0 hm0
    obtain ⟨m, hm, rfl⟩ := List.mem_map.1 hm0
    obtain ⟨o, ho, hg, _, hop⟩ := allocAt_spec (hat m hm).1
    exact ⟨o, ho, hg, by unfold kindOf; rw [hop], fun ρ w => run_alloc_row hop (hok m hm).zero ρ w⟩
  · intro m0 hm0
    obtain ⟨m, hm, rfl⟩ := List.mem_map.1 hm0
    obtain ⟨oa, hoa, _, hda, _⟩ := allocAt_spec (hat m hm).1
    obtain ⟨o, ho, hg, hd, hop⟩ := storeAt_spec (hat m hm).2
    have hok' := hok m hm
    refine ⟨o, m.d, .tmp m.e, ho, hg, hd, by unfold kindOf; rw [hop], ?_, hok'.slot, ?_, ?_, ?_, ?_, hok'.full, ?_⟩
    · show (ops[m.key.1]?).bind _ = _
      rw [hoa]; exact hda
    · rw [hop]; simp [Op.operands, Mk.key]
    · rw [hop]; simp [Op.operands, Mk.key]
    · intro m1 hm1 hd1
      obtain ⟨m', hm', rfl⟩ := List.mem_map.1 hm1
      obtain ⟨oa', hoa', _, hda', _⟩ := allocAt_spec (hat m' hm').1
      have hd1' : oa'.dst = some m.d := by
        have : (ops[m'.key.1]?).bind (·.dst) = some m.d := hd1
        rwa [hoa'] at this
      have := hO _ _ _ _ _ hoa' hoa hd1' hda
      rw [(hdis m' hm' m hm).1 this]
    · intro e he m1 hm1 hd1
      obtain ⟨m', hm', rfl⟩ := List.mem_map.1 hm1
      obtain ⟨oa', hoa', _, hda', _⟩ := allocAt_spec (hat m' hm').1
      have hd1' : oa'.dst = some e := by
        have : (ops[m'.key.1]?).bind (·.dst) = some e := hd1
        rwa [hoa'] at this
      rw [hda'] at hd1'
      cases he
      exact (hdis m hm m' hm').2.2 (Option.some.inj hd1')
    · exact fun ρ b w hp hx hb => run_store_row hop hok'.info hok'.size hok'.one ρ b w hp hx hb
  · intro i o ho hk
    have h1 := List.all_eq_true.1 hops i (List.mem_range.2 (Array.getElem?_eq_some_iff.1 ho).1)
    simp only [ho, Bool.and_eq_true, Bool.or_eq_true, bne_iff_ne, ne_eq] at h1
    obtain ⟨m0, hm0, he⟩ := List.any_eq_true.1 (h1.1.2.resolve_left (fun h => h hk))
    obtain ⟨m, hm, rfl⟩ := List.mem_map.1 hm0
    exact ⟨m.made, List.mem_map.2 ⟨m, hm, rfl⟩, beq_iff_eq.1 he⟩
  · intro i o ho hk
    have h1 := List.all_eq_true.1 hops i (List.mem_range.2 (Array.getElem?_eq_some_iff.1 ho).1)
    simp only [ho, Bool.and_eq_true, Bool.or_eq_true, bne_iff_ne, ne_eq] at h1
    obtain ⟨m0, hm0, he⟩ := List.any_eq_true.1 (h1.2.resolve_left (fun h => h hk))
    obtain ⟨m, hm, rfl⟩ := List.mem_map.1 hm0
    exact ⟨m.made, List.mem_map.2 ⟨m, hm, rfl⟩, beq_iff_eq.1 he⟩
  · intro m0 hm0 m1 hm1 he
    obtain ⟨m, hm, rfl⟩ := List.mem_map.1 hm0
    obtain ⟨m', hm', rfl⟩ := List.mem_map.1 hm1
    rw [(hdis m hm m' hm').1 he]
  · intro m0 hm0 m1 hm1 he
    obtain ⟨m, hm, rfl⟩ := List.mem_map.1 hm0
    obtain ⟨m', hm', rfl⟩ := List.mem_map.1 hm1
    rw [(hdis m hm m' hm').2.1 he]

theorem filter_take : ∀ (l : List Oper) (n : Nat), (∀ i o, l[i]? = some o → decide (i < n) = (kindOf o == 0)) → l.filter (kindOf · == 0) = l.take n
  | [], _, _ => by simp
  | o :: l, 0, hk => by
    have h0 : (kindOf o == 0) = false := (hk 0 o rfl).symm
    have ih := filter_take l 0 (fun i o' ho' => by have := hk (i + 1) o' (by simpa using ho'); simpa using this)
    simp [h0, ih]
  | o :: l, n + 1, hk => by
    have h0 : (kindOf o == 0) = true := by rw [← hk 0 o rfl]; simp
    have ih := filter_take l n (fun i o' ho' => by have := hk (i + 1) o' (by simpa using ho'); simpa using this)
    simp [h0, ih]
theorem quietL_take {n : Nat} {ks : List (Nat × Nat × TypeId × Tmp × Tmp)} (hB : mkB l.toArray n ks = true) : quietL l.toArray 0 = l.take n := by
  simp only [mkB, Bool.and_eq_true] at hB
  obtain ⟨⟨⟨_, _⟩, hops⟩, _⟩ := hB
  unfold quietL
  rw [List.drop_zero]
  refine filter_take l n fun i o ho => ?_
  have hlt : i < l.toArray.size := by simpa using (List.getElem?_eq_some_iff.1 ho).1
  have h1 := List.all_eq_true.1 hops i (List.mem_range.2 hlt)
  have ho' : l.toArray[i]? = some o := by simpa using ho
  simp only [ho', Bool.and_eq_true, beq_iff_eq] at h1
  exact h1.1.1

/-- One new variable. -/
theorem region_mk1 {id : Nat} (n : Nat) (m : Mk) (hm : P.follows .mixedOrders = true) (hB : mkB l.toArray n [m.key] = true)
    (hq : ∀ w1 : Ext w.drew, wpQuiet P l.toArray (fun w' => ∃ g : Ext w1.on, w' = g.on) (fun a' => a' = aQ) (l.take n) a) (hok : MkOk P aQ m)
    (h : ∀ (b : Nat) (w' : World), Below w.heap.size w w' → w.heap.size ≤ b → w'.heap[b]? = some (.cells m.full m.type) → Q .normal (aQ.put (some m.d) (.pointer (some ⟨b, 0, none⟩))) w') :
    (Code.region id l.toArray true).wp P Q a w := by
  have hMO := madeOk (P := P) (aQ := aQ) (ms := [m]) (by simpa using hB) (by simp) (by simpa using hok)
  have hB' := hB
  simp only [mkB, Bool.and_eq_true] at hB'
  refine wp_region_make (ms := [m].map Mk.made) hm hB'.1.1.1.1 hB'.1.1.1.2 hMO (fun w1 => by rw [quietL_take hB]; exact hq w1) (fun V w' hb hL => ?_)
  obtain ⟨b, hV, h1, _, h3, _⟩ := hL.here m.made (by simp) trivial
  obtain ⟨oa, hoa, _, hda, _⟩ := allocAt_spec (ops := l.toArray) (m := m.key) (by
    have := List.all_eq_true.1 hB'.1.1.2 m.key (by simp)
    simp only [Bool.and_eq_true] at this
    exact this.1)
  have e : (l.toArray[m.made.op]?).bind (·.dst) = some m.d := by
    show (l.toArray[m.key.1]?).bind _ = _
    rw [hoa]; exact hda
  have := h b w' hb h1 (h3 trivial)
  unfold endFrame
  simp only [List.map_cons, List.map_nil, List.foldl_cons, List.foldl_nil]
  rw [e, hV]
  exact this

/-- Two. -/
theorem region_mk2 {id : Nat} (n : Nat) (m1 m2 : Mk) (hm : P.follows .mixedOrders = true) (hB : mkB l.toArray n [m1.key, m2.key] = true) (hne : m1.op ≠ m2.op)
    (hq : ∀ w1 : Ext w.drew, wpQuiet P l.toArray (fun w' => ∃ g : Ext w1.on, w' = g.on) (fun a' => a' = aQ) (l.take n) a) (hok1 : MkOk P aQ m1) (hok2 : MkOk P aQ m2)
    (h : ∀ (b1 b2 : Nat) (w' : World), Below w.heap.size w w' → w.heap.size ≤ b1 → w.heap.size ≤ b2 → b1 ≠ b2 → w'.heap[b1]? = some (.cells m1.full m1.type) → w'.heap[b2]? = some (.cells m2.full m2.type) →
      Q .normal ((aQ.put (some m1.d) (.pointer (some ⟨b1, 0, none⟩))).put (some m2.d) (.pointer (some ⟨b2, 0, none⟩))) w') :
    (Code.region id l.toArray true).wp P Q a w := by
  have hmm : m1 ≠ m2 := fun e => hne (by rw [e])
  have hkk : m1.key ≠ m2.key := fun e => hne (congrArg (·.1) e)
  have hMO := madeOk (P := P) (aQ := aQ) (ms := [m1, m2]) (by simpa using hB) (fun x hx y hy e => by
    simp only [List.mem_cons, List.not_mem_nil, or_false] at hx hy
    rcases hx with rfl | rfl <;> rcases hy with rfl | rfl
    · rfl
    · exact absurd e hkk
    · exact absurd e.symm hkk
    · rfl) (fun x hx => by
    simp only [List.mem_cons, List.not_mem_nil, or_false] at hx
    rcases hx with rfl | rfl
    · exact hok1
    · exact hok2)
  have hB' := hB
  simp only [mkB, Bool.and_eq_true] at hB'
  refine wp_region_make (ms := [m1, m2].map Mk.made) hm hB'.1.1.1.1 hB'.1.1.1.2 hMO (fun w1 => by rw [quietL_take hB]; exact hq w1) (fun V w' hb hL => ?_)
  obtain ⟨b1, hV1, h1, _, h3, _⟩ := hL.here m1.made (by simp) trivial
  obtain ⟨b2, hV2, h1', _, h3', _⟩ := hL.here m2.made (by simp) trivial
  have hap := hL.apart m1.made (by simp) m2.made (by simp) trivial trivial (fun e => hne (congrArg (·.op) e))
  have hbb : b1 ≠ b2 := fun e => hap (by rw [hV1, hV2, e])
  have dst : ∀ m ∈ [m1, m2], (l.toArray[m.made.op]?).bind (·.dst) = some m.d := fun m hm' => by
    obtain ⟨oa, hoa, _, hda, _⟩ := allocAt_spec (m := m.key) (by
      have := List.all_eq_true.1 hB'.1.1.2 m.key (by
        simp only [List.mem_cons, List.not_mem_nil, or_false] at hm' ⊢
        rcases hm' with rfl | rfl
        · exact .inl rfl
        · exact .inr rfl)
      simp only [Bool.and_eq_true] at this
      exact this.1)
    show (l.toArray[m.key.1]?).bind _ = _
    rw [hoa]; exact hda
  have := h b1 b2 w' hb h1 h1' hbb (h3 trivial) (h3' trivial)
  unfold endFrame
  simp only [List.map_cons, List.map_nil, List.foldl_cons, List.foldl_nil]
  rw [dst m1 (by simp), dst m2 (by simp), hV1, hV2]
  exact this
end
end Go.Proofs.YtnjeoeekidnffaaGreat
/- Arrays of integers as functions of their index, and the model's operations on whole arrays, by law. -/
namespace Go.Proofs.YtnjeoeekidnffaaGreat
open Go.RowKit
set_option maxRecDepth 100000

/-- n integers: f 0, f 1, .. -/
def arr (k : IntKind) (n : Nat) (f : Nat → Int) : Array Value := ((List.range n).map fun i => Value.int k (f i)).toArray
theorem arr_size (k : IntKind) (n : Nat) (f : Nat → Int) : (arr k n f).size = n := by simp [arr]
theorem arr_get (k : IntKind) {n : Nat} (f : Nat → Int) {i : Nat} (h : i < n) : (arr k n f)[i]? = some (.int k (f i)) := by simp [arr, h]
theorem arr_congr {k : IntKind} {n : Nat} {f g : Nat → Int} (h : ∀ i, i < n → f i = g i) : arr k n f = arr k n g := by
  unfold arr
  congr 1
  exact List.map_congr_left fun i hi => by rw [h i (List.mem_range.1 hi)]
theorem arr_inj {k : IntKind} {n : Nat} {f g : Nat → Int} (h : arr k n f = arr k n g) {i : Nat} (hi : i < n) : f i = g i := by
  have h1 := arr_get k f hi
  rw [h, arr_get k g hi] at h1
  simp at h1
  exact h1.symm
theorem arr_set (k : IntKind) {n : Nat} (f : Nat → Int) {i : Nat} (v : Int) (h : i < n) : (arr k n f).setIfInBounds i (.int k v) = arr k n (fun j => if j = i then v else f j) := by
  apply Array.ext_getElem?
  intro j
  by_cases hj : j < n
  · rw [arr_get k _ hj]
    by_cases e : j = i
    · subst e; rw [Array.getElem?_setIfInBounds_self_of_lt (by rw [arr_size]; exact hj)]; simp
    · rw [Array.getElem?_setIfInBounds_ne (fun h => e h.symm), arr_get k f hj, if_neg e]
  · rw [Array.getElem?_eq_none (by simp [arr_size]; omega), Array.getElem?_eq_none (by simp [arr_size]; omega)]
theorem arr_one (k : IntKind) (n : Nat) (f : Nat → Int) : (arr k n f).all (·.oneCell') = true := by
  unfold arr
  rw [Array.all_eq_true_iff_forall_mem]
  intro v hv
  simp at hv
  obtain ⟨i, _, rfl⟩ := hv
  rfl

section
variable {P : Program} {ops : Array Oper} {Q : Exit → Act → World → Prop} {a : Act} {w : World} {rest : List Oper} {o : Oper}

theorem blk_cell {w : World} {b j : Nat} {c : Array Value} {t : TypeId} {v : Value} (hb : w.heap[b]? = some (.cells c t)) (hv : c[j]? = some v) : w.cell? ⟨b, j, none⟩ = some v := by
  rw [cell_of_row w b j c t (0, 0) hb, hv]
theorem blk_frozen {w : World} {b j : Nat} {c : Array Value} {t : TypeId} (hb : w.heap[b]? = some (.cells c t)) : w.frozen? ⟨b, j, none⟩ = false := by
  simp [World.frozen?, hb]
theorem blk_set {w : World} {b j : Nat} {c : Array Value} {t : TypeId} (hb : w.heap[b]? = some (.cells c t)) (v : Value) : (w.setCell ⟨b, j, none⟩ v).heap[b]? = some (.cells (c.setIfInBounds j v) t) := by
  simp only [World.setCell]
  rw [Array.getElem?_modify, if_pos rfl, hb]
  rfl
theorem blk_other {w : World} {b b' j : Nat} {o : Obj} (hb : w.heap[b']? = some o) (h : b' ≠ b) (v : Value) : (w.setCell ⟨b, j, none⟩ v).heap[b']? = some o := by
  rw [Below.heap_setCell _ _ _ _ h, hb]
theorem blk_alloc {w : World} {b : Nat} {o o' : Obj} (hb : w.heap[b]? = some o) : (w.alloc o').heap[b]? = some o := by
  rw [Below.heap_alloc _ _ _ (Array.getElem?_eq_some_iff.1 hb).1, hb]
theorem blk_row {w : World} {b : Nat} {c c' : Array Value} {t : TypeId} (hb : w.heap[b]? = some (.cells c t)) : (w.setRow b c').heap[b]? = some (.cells c' t) := setRow_heap _ _ _ _ _ _ hb
theorem blk_row_other {w : World} {b b' : Nat} {o : Obj} {c' : Array Value} (hb : w.heap[b']? = some o) (h : b' ≠ b) : (w.setRow b c').heap[b']? = some o := by rw [setRow_other _ _ _ _ h, hb]

/-- A new variable that is an array. -/
theorem wpList_alloc_row (hg : o.guard = none) (t : TypeId) (ho : o.op = .alloc t) (z : Array Value) (hz : ∀ w : World, (zeroValue t).run P w = .ok (.agg z) w)
    (h : wpList P ops Q rest (a.put o.dst (.pointer (some ⟨w.heap.size, 0, none⟩))) (w.alloc (.cells z t))) : wpList P ops Q (o :: rest) a w :=
  wpList_plain hg fun _ hK => by
    unfold Oper.wp
    rw [run_alloc_row ho hz]
    exact hK _ _ h
/-- An array that is stored whole. -/
theorem wpList_store_row (hg : o.guard = none) (t : TypeId) (p x : Operand) (ho : o.op = .store t p x) (b : Nat) (z c : Array Value) (hp : a.eval p = .pointer (some ⟨b, 0, none⟩)) (hx : a.eval x = .agg c) (hb : w.heap[b]? = some (.cells z t))
    (hi : (P.info? t).map (·.size) = some c.size) (hs : z.size = c.size) (h1 : c.all (·.oneCell') = true)
    (h : wpList P ops Q rest (a.put o.dst undef) (w.setRow b c)) : wpList P ops Q (o :: rest) a w :=
  wpList_plain hg fun _ hK => by
    unfold Oper.wp
    rw [run_store_row ho hi hs h1 a.eval b w hp hx hb]
    exact hK _ _ h
theorem run_build_zero {o : Oper} {t : TypeId} {z : Array Value} (ho : o.op = .build t #[]) {n k : Nat} {e : TypeId} (hu : P.underlying t = some (.array n e)) (he : ∀ w : World, (sizeOf e).run P w = .ok k w) (hz : ∀ w : World, (zeroValue t).run P w = .ok (.agg z) w) (ρ : Operand → Value) (w : World) : (execOp ρ o).run P w = .ok (.value (.agg z)) w := by
  obtain ⟨dst, op, type, pos, after, guard⟩ := o
  simp only at ho
  subst ho
  simp [execOp, go_sem, hz, run_underlying hu, he]
theorem wpList_build_zero (hg : o.guard = none) (t : TypeId) (ho : o.op = .build t #[]) {n k : Nat} {e : TypeId} (hu : P.underlying t = some (.array n e)) (he : ∀ w : World, (sizeOf e).run P w = .ok k w) (z : Array Value) (hz : ∀ w : World, (zeroValue t).run P w = .ok (.agg z) w)
    (h : wpList P ops Q rest (a.put o.dst (.agg z)) w) : wpList P ops Q (o :: rest) a w :=
  wpList_plain hg fun _ hK => by
    unfold Oper.wp
    rw [run_build_zero ho hu he hz]
    exact hK _ _ h
/-- A whole array, loaded, in a region that draws its order. -/
theorem quiet_load_row {C : World → Prop} {K : Act → Prop} (t : TypeId) (x : Operand) (ho : o.op = .load t x) (b : Nat) (c : Array Value) {e : TypeId} {n : Nat} (hx : a.eval x = .pointer (some ⟨b, 0, none⟩))
    (hb : ∀ w, C w → w.heap[b]? = some (.cells c t)) (hu : P.underlying t = some (.array n e)) (hi : (P.info? t).map (·.size) = some c.size)
    (hk : K (a.put o.dst (.agg c))) : o.quiet P a C K := by
  refine ⟨.agg c, fun w hw => ?_, hk⟩
  unfold Oper.quietAt
  have h2 : (execOp a.eval o).run P w = .ok (.value (.agg c)) w := by
    unfold execOp
    simp only [ho, hx, Instr.loadAt, Instr.sureAddr, Sem.run_bind, Sem.run_pure, Result.andThen_ok, run_loadVar_row w b t t c (0, 0) _ (hb w hw) hu rfl hi]
  rw [h2]
  exact ⟨rfl, rfl⟩
end
end Go.Proofs.YtnjeoeekidnffaaGreat
/- Plain arithmetic on digits to the base 256. -/
namespace Go.Proofs.YtnjeoeekidnffaaGreat.SmWord

def dig (n i : Nat) : Nat := n / 256 ^ i % 256
def lb (n i : Nat) : Nat := n / B ^ i % B
theorem dig_lt (n i : Nat) : dig n i < 256 := Nat.mod_lt _ (by decide)
theorem B_256 : B = 256 ^ 8 := by decide
theorem M_256 : M = 256 ^ 32 := by decide
theorem lb_dig (m k : Nat) : lb m (k / 8) / 2 ^ (8 * (k % 8)) % 256 = dig m k := by
  unfold lb dig
  have h8 : k % 8 < 8 := Nat.mod_lt _ (by decide)
  have e1 : (2 : Nat) ^ (8 * (k % 8)) = 256 ^ (k % 8) := by rw [Nat.pow_mul]
  have e2 : B = 256 ^ (k % 8) * 256 ^ (8 - k % 8) := by rw [← Nat.pow_add, B_256]; congr 1; omega
  have e3 : (256 : Nat) ^ (8 - k % 8) = 256 * 256 ^ (7 - k % 8) := by rw [← Nat.pow_succ']; congr 1; omega
  have e4 : B ^ (k / 8) * 256 ^ (k % 8) = 256 ^ k := by rw [B_256, ← Nat.pow_mul, ← Nat.pow_add]; congr 1; omega
  rw [e1]
  conv => lhs; arg 1; arg 1; arg 2; rw [e2]
  rw [Nat.mod_mul_right_div_self, e3, Nat.mod_mul_right_mod, Nat.div_div_eq_div_mul, e4]

/-! Digits and their number. -/
theorem dig_congr {m n : Nat} (h : m % M = n % M) {i : Nat} (hi : i < 32) : dig m i = dig n i := by
  have k : ∀ x : Nat, dig (x % M) i = dig x i := fun x => by
    unfold dig
    have e : M = 256 ^ i * (256 * 256 ^ (31 - i)) := by rw [← Nat.pow_succ', ← Nat.pow_add, M_256]; congr 1; omega
    rw [e, Nat.mod_mul_right_div_self, Nat.mod_mul_right_mod]
  rw [← k m, ← k n, h]

/-! Sums. -/
def carry (m n k : Nat) : Nat := (m + n) / 256 ^ k - m / 256 ^ k - n / 256 ^ k
theorem carry_eq (m n k : Nat) : (m + n) / 256 ^ k = m / 256 ^ k + n / 256 ^ k + carry m n k ∧ carry m n k ≤ 1 := by
  have hp : 0 < 256 ^ k := Nat.pow_pos (by decide)
  have h := Nat.add_div (a := m) (b := n) hp
  unfold carry
  split at h <;> omega
theorem carry_zero (m n : Nat) : carry m n 0 = 0 := by simp [carry]
theorem carry_step (m n k : Nat) : (dig m k + dig n k + carry m n k) % 256 = dig (m + n) k ∧ (dig m k + dig n k + carry m n k) / 256 = carry m n (k + 1) := by
  obtain ⟨h1, _⟩ := carry_eq m n k
  obtain ⟨h2, _⟩ := carry_eq m n (k + 1)
  unfold dig
  rw [Nat.pow_succ, ← Nat.div_div_eq_div_mul, ← Nat.div_div_eq_div_mul, ← Nat.div_div_eq_div_mul] at h2
  rw [h1] at h2 ⊢
  generalize m / 256 ^ k = x at *
  generalize n / 256 ^ k = y at *
  generalize carry m n k = c at *
  generalize carry m n (k + 1) = d at *
  omega

/-! A word out of its digits, from the highest on: what part q is behind the digits from k on. -/
def acc (m k q : Nat) : Nat := if k ≤ 8 * q then lb m q else if 8 * q + 8 ≤ k then 0 else m / 256 ^ k % 256 ^ (8 * q + 8 - k)
theorem acc_zero (m q : Nat) : acc m 0 q = lb m q := by simp [acc]
theorem acc_end (m q : Nat) (hq : q < 4) : acc m 32 q = 0 := by
  unfold acc; rw [if_neg (by omega), if_pos (by omega)]
theorem acc_other (m k q : Nat) (h : k / 8 ≠ q) : acc m (k + 1) q = acc m k q := by
  unfold acc
  by_cases h1 : k + 1 ≤ 8 * q
  · rw [if_pos h1, if_pos (by omega)]
  · rw [if_neg h1]
    by_cases h2 : k ≤ 8 * q
    · omega
    · rw [if_neg h2, if_pos (by omega), if_pos (by omega)]
theorem acc_step (m k : Nat) : acc m (k + 1) (k / 8) * 256 + dig m k = acc m k (k / 8) ∧ acc m k (k / 8) < B := by
  have hB : 256 ^ 8 = B := B_256.symm
  have key : ∀ x N : Nat, x / 256 % N * 256 + x % 256 = x % (256 * N) := fun x N => by
    rw [Nat.mod_mul]; omega
  have e0 : acc m k (k / 8) = m / 256 ^ k % 256 ^ (8 * (k / 8) + 8 - k) := by
    unfold acc
    by_cases h : k ≤ 8 * (k / 8)
    · have hk : k = 8 * (k / 8) := by omega
      rw [if_pos h]
      unfold lb
      have e1 : B ^ (k / 8) = 256 ^ k := by rw [B_256, ← Nat.pow_mul, ← hk]
      rw [e1, show 8 * (k / 8) + 8 - k = 8 by omega, hB]
    · rw [if_neg h, if_neg (by omega)]
  have e1 : acc m (k + 1) (k / 8) = m / 256 ^ (k + 1) % 256 ^ (8 * (k / 8) + 8 - (k + 1)) := by
    unfold acc
    rw [if_neg (by omega)]
    by_cases h : 8 * (k / 8) + 8 ≤ k + 1
    · rw [if_pos h, show 8 * (k / 8) + 8 - (k + 1) = 0 by omega, Nat.pow_zero, Nat.mod_one]
    · rw [if_neg h]
  refine ⟨?_, ?_⟩
  · rw [e0, e1, Nat.pow_succ, ← Nat.div_div_eq_div_mul]
    unfold dig
    rw [key, ← Nat.pow_succ']
    congr 2
    omega
  · rw [e0]
    refine Nat.lt_of_lt_of_le (Nat.mod_lt _ (Nat.pow_pos (by decide))) ?_
    rw [← hB]
    exact Nat.pow_le_pow_right (by decide) (by omega)

/-! Products, row by row. -/
def rowT (m n i k : Nat) : Nat := m % 256 ^ i * n + dig m i * 256 ^ i * (n % 256 ^ k)
def rowC (m n i k : Nat) : Nat := rowT m n i k / 256 ^ (i + k) - m % 256 ^ i * n / 256 ^ (i + k)
theorem rowC_eq (m n i k : Nat) : rowT m n i k / 256 ^ (i + k) = m % 256 ^ i * n / 256 ^ (i + k) + rowC m n i k := by
  have : m % 256 ^ i * n / 256 ^ (i + k) ≤ rowT m n i k / 256 ^ (i + k) := Nat.div_le_div_right (Nat.le_add_right _ _)
  unfold rowC; omega
theorem rowT_zero (m n i : Nat) : rowT m n i 0 = m % 256 ^ i * n := by simp [rowT, Nat.mod_one]
theorem rowC_zero (m n i : Nat) : rowC m n i 0 = 0 := by unfold rowC; rw [rowT_zero]; simp
theorem rowT_succ (m n i k : Nat) : rowT m n i (k + 1) = rowT m n i k + dig m i * dig n k * 256 ^ (i + k) := by
  have e : n % 256 ^ (k + 1) = n % 256 ^ k + 256 ^ k * dig n k := by rw [Nat.pow_succ, Nat.mod_mul]; rfl
  unfold rowT
  rw [e, Nat.pow_add]
  generalize 256 ^ i = p
  generalize 256 ^ k = q
  grind
theorem row_low (m n i k : Nat) {j : Nat} (hj : j < i + k) : dig (rowT m n i (k + 1)) j = dig (rowT m n i k) j := by
  rw [rowT_succ]
  unfold dig
  have e : 256 ^ (i + k) = 256 ^ j * (256 * 256 ^ (i + k - j - 1)) := by rw [← Nat.pow_succ', ← Nat.pow_add]; congr 1; omega
  rw [e, ← Nat.mul_assoc, Nat.mul_comm _ (256 ^ j), Nat.mul_assoc, Nat.add_mul_div_left _ _ (Nat.pow_pos (by decide)), ← Nat.mul_assoc, Nat.mul_comm _ 256, Nat.mul_assoc, Nat.add_mul_mod_self_left]
theorem row_step (m n i k : Nat) : (dig (m % 256 ^ i * n) (i + k) + dig m i * dig n k + rowC m n i k) % 256 = dig (rowT m n i (k + 1)) (i + k) ∧
    (dig (m % 256 ^ i * n) (i + k) + dig m i * dig n k + rowC m n i k) / 256 = rowC m n i (k + 1) := by
  have h1 := rowC_eq m n i k
  have h2 := rowC_eq m n i (k + 1)
  have hp : 0 < 256 ^ (i + k) := Nat.pow_pos (by decide)
  have e1 : rowT m n i (k + 1) / 256 ^ (i + k) = rowT m n i k / 256 ^ (i + k) + dig m i * dig n k := by
    rw [rowT_succ, Nat.add_mul_div_right _ _ hp]
  rw [show i + (k + 1) = i + k + 1 by omega, Nat.pow_succ, ← Nat.div_div_eq_div_mul, ← Nat.div_div_eq_div_mul, e1, h1] at h2
  rw [h1] at e1
  have e3 : dig (rowT m n i (k + 1)) (i + k) = (m % 256 ^ i * n / 256 ^ (i + k) + rowC m n i k + dig m i * dig n k) % 256 := by
    show rowT m n i (k + 1) / 256 ^ (i + k) % 256 = _
    rw [e1]
  have e4 : dig (m % 256 ^ i * n) (i + k) = m % 256 ^ i * n / 256 ^ (i + k) % 256 := rfl
  rw [e3, e4]
  generalize m % 256 ^ i * n / 256 ^ (i + k) = X at *
  generalize dig m i * dig n k = Y at *
  generalize rowC m n i k = c at *
  generalize rowC m n i (k + 1) = d at *
  omega
theorem rowC_le (m n i k : Nat) : rowC m n i k ≤ 256 := by
  have : rowT m n i k / 256 ^ (i + k) ≤ m % 256 ^ i * n / 256 ^ (i + k) + 256 := by
    have hd : dig m i * 256 ^ i * (n % 256 ^ k) ≤ 256 ^ (i + k) * 256 := by
      have h1 := dig_lt m i
      have h2 : n % 256 ^ k < 256 ^ k := Nat.mod_lt _ (Nat.pow_pos (by decide))
      rw [Nat.pow_add]
      calc dig m i * 256 ^ i * (n % 256 ^ k) ≤ 256 * 256 ^ i * 256 ^ k := Nat.mul_le_mul (Nat.mul_le_mul (by omega) (Nat.le_refl _)) (by omega)
        _ = 256 ^ i * 256 ^ k * 256 := by rw [Nat.mul_comm 256, Nat.mul_assoc, Nat.mul_comm 256, Nat.mul_assoc]
    have hp : 0 < 256 ^ (i + k) := Nat.pow_pos (by decide)
    have := Nat.div_le_div_right (c := 256 ^ (i + k)) (Nat.add_le_add_left hd (m % 256 ^ i * n))
    rw [Nat.add_mul_div_left _ _ hp] at this
    exact this
  unfold rowC; omega
theorem row_end (m n i : Nat) (hi : i < 32) {j : Nat} (hj : j < 32) : dig (rowT m n i (32 - i)) j = dig (m % 256 ^ (i + 1) * n) j := by
  apply dig_congr _ hj
  have e1 : m % 256 ^ (i + 1) = m % 256 ^ i + 256 ^ i * dig m i := by rw [Nat.pow_succ, Nat.mod_mul]; rfl
  have e2 : n = n % 256 ^ (32 - i) + 256 ^ (32 - i) * (n / 256 ^ (32 - i)) := (Nat.mod_add_div _ _).symm
  have e3 : M = 256 ^ i * 256 ^ (32 - i) := by rw [← Nat.pow_add, M_256]; congr 1; omega
  have e4 : m % 256 ^ (i + 1) * n = rowT m n i (32 - i) + M * (dig m i * (n / 256 ^ (32 - i))) := by
    unfold rowT
    rw [e1, e3]
    conv => lhs; rw [Nat.add_mul]; arg 2; rw [e2]
    generalize n / 256 ^ (32 - i) = x
    generalize n % 256 ^ (32 - i) = y
    generalize 256 ^ (32 - i) = q
    generalize 256 ^ i = p
    generalize m % p * n = z
    grind
  rw [e4, Nat.add_mul_mod_self_left]
theorem row_last (m n : Nat) {j : Nat} (hj : j < 32) : dig (m % 256 ^ 32 * n) j = dig (m * n) j := by
  apply dig_congr _ hj
  rw [← M_256, Nat.mod_mul_mod]
end Go.Proofs.YtnjeoeekidnffaaGreat.SmWord
