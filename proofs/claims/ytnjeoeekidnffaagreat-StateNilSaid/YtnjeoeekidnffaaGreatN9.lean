/- The law for a region whose last operation is a store into a variable that lay before, where some of what comes before it is waited for by another operation that the store waits for. -/
import Derived.Test.YtnjeoeekidnffaaGreatN2
import Derived.Test.YtnjeoeekidnffaaGreatN6
namespace Go.Proofs.YtnjeoeekidnffaaGreat
open Go.RowKit
set_option maxRecDepth 100000

section
variable {P : Program} {Q : Exit → Act → World → Prop} {a : Act} {w : World} {l : List Oper} {aQ : Act}

/-- Operation n waits for operation j, or for one that does. -/
def waits2 (l : Array Oper) (n j : Nat) : Bool := waitsB l n j || (List.range n).any fun m => waitsB l n m && waitsB l m j
theorem region_last2 {id : Nat} (n : Nat) (hm : P.follows .mixedOrders = true)
    (hB : (makeB l.toArray && fwdB l.toArray && decide (l.toArray.size = n + 1) && ((List.range n).all fun j => waits2 l.toArray n j && (match l.toArray[j]? with | some o => kindOf o == 0 | none => false)) && (match l.toArray[n]? with | some o => kindOf o == 2 | none => false)) = true)
    (hq : ∀ w1 : Ext w.drew, wpQuiet P l.toArray (fun w' => ∃ g : Ext w1.on, w' = g.on) (fun a' => a' = aQ) (l.take n) a)
    (h : ∀ w' : World, Below w.heap.size w w' → wpList P l.toArray Q (l.drop n) aQ w') : (Code.region id l.toArray true).wp P Q a w := by
  simp only [Bool.and_eq_true, decide_eq_true_eq] at hB
  obtain ⟨⟨⟨⟨hM, hfwd⟩, hsz⟩, hall⟩, hlast⟩ := hB
  have hallj : ∀ j, j < n → waits2 l.toArray n j = true ∧ ∃ o, l.toArray[j]? = some o ∧ kindOf o = 0 := fun j hj => by
    have := List.all_eq_true.1 hall j (List.mem_range.2 hj)
    simp only [Bool.and_eq_true] at this
    refine ⟨this.1, ?_⟩
    have h2 := this.2
    split at h2
    · rename_i o ho; exact ⟨o, ho, by simpa using h2⟩
    · cases h2
  obtain ⟨on, hon, hkn⟩ : ∃ o, l.toArray[n]? = some o ∧ kindOf o = 2 := by
    split at hlast
    · rename_i o ho; exact ⟨o, ho, by simpa using hlast⟩
    · cases hlast
  have hlen : l.length = n + 1 := by simpa using hsz
  have hqL : quietL l.toArray 0 = l.take n := by
    unfold quietL
    rw [List.drop_zero]
    refine filter_take l n fun i o ho => ?_
    by_cases hi : i < n
    · obtain ⟨_, o', ho', hk⟩ := hallj i hi
      have : o' = o := by
        have h1 : l.toArray[i]? = some o := by simpa using ho
        rw [ho'] at h1; exact Option.some.inj h1
      subst this
      simp [hi, hk]
    · have hin : i = n := by have := (List.getElem?_eq_some_iff.1 ho).1; omega
      subst hin
      have : on = o := by
        have h1 : l.toArray[i]? = some o := by simpa using ho
        rw [hon] at h1; exact Option.some.inj h1
      subst this
      simp [hkn]
  have hq' : ∀ w1 : Ext w.drew, wpQuiet P l.toArray (cls w1.on) (fun a' => a' = aQ) (quietL l.toArray 0) a := fun w1 => by rw [hqL]; exact hq w1
  have hdrop : l.drop n = [on] := by
    have hlt : n < l.length := by omega
    rw [List.drop_eq_getElem_cons hlt, List.drop_eq_nil_of_le (by omega)]
    have : l[n] = on := by
      have h1 : l.toArray[n]? = some l[n] := by simp [hlt]
      rw [hon] at h1; exact (Option.some.inj h1).symm
    rw [this]
  refine wp_region_any hm ?_
  refine wpAny_inv (J := fun listed a' w' => listed.size = l.toArray.size ∧ ((¬ up listed n ∧ J l.toArray w.drew a aQ [] listed a' w') ∨ ((∀ i, i < l.toArray.size → up listed i) ∧ Q .normal a' w'))) (fun listed a' w' hJ hal => ?_) (fun _ _ _ hJ => hJ.1) (fun listed a' w' hJ hr => ?_) (fun listed a' w' i o hJ hi ho => ?_) _ _ _ _ ?_ ?_
  · rcases hJ.2 with ⟨hn, _⟩ | ⟨_, hQ⟩
    · exact absurd (hal n (by rw [hsz]; omega)) hn
    · exact hQ
  · rcases hJ.2 with ⟨_, hJ'⟩ | ⟨hal, _⟩
    · intro i
      induction i using Nat.strongRecOn with
      | _ i ih =>
        intro hi
        apply Classical.byContradiction
        intro hn
        have hin : i ∈ Region.ready .any l.toArray listed := by
          refine mem_ready.2 ⟨?_, l.toArray[i], Array.getElem?_eq_getElem hi, fun e he hb => ih e.on (fwdB_spec hfwd (Array.getElem?_eq_getElem hi) he hb) (Nat.lt_trans (fwdB_spec hfwd (Array.getElem?_eq_getElem hi) he hb) hi)⟩
          have hl : i < listed.size := by rw [hJ'.size]; exact hi
          simp [hl] at hn ⊢
          exact hn
        rw [hr] at hin
        cases hin
    · exact hal
  · obtain ⟨hun, _⟩ := mem_ready' hi
    have hilt : i < l.toArray.size := (Array.getElem?_eq_some_iff.1 ho).1
    have hlt : i < listed.size := by rw [hJ.1]; exact hilt
    rcases hJ.2 with ⟨hn, hJ'⟩ | ⟨hal, _⟩
    · by_cases hin : i = n
      · subst hin
        rw [hon] at ho; cases ho
        have hone : ∀ j, waitsB l.toArray i j = true → up listed j := fun j hw => by
          obtain ⟨o', ho', e, he, hb, hone⟩ := waitsB_spec hw
          obtain ⟨_, o2, ho2, hal2⟩ := mem_ready' hi
          rw [ho'] at ho2; cases ho2
          rw [← hone]; exact hal2 e he hb
        have hups : ∀ j, j < i → up listed j := fun j hj => by
          have h2 := (hallj j hj).1
          simp only [waits2, Bool.or_eq_true] at h2
          rcases h2 with h2 | h2
          · exact hone j h2
          · obtain ⟨m, _, hm2⟩ := List.any_eq_true.1 h2
            simp only [Bool.and_eq_true] at hm2
            obtain ⟨o', ho', e, he, hb, hon'⟩ := waitsB_spec hm2.2
            rw [← hon']
            exact hJ'.closed m o' ho' (hone m hm2.1) e he hb
        obtain ⟨V, hV, hF, _⟩ := hJ'.rest
        have hFQ : Fr l.toArray a (fun j => ∃ o, l.toArray[j]? = some o ∧ kindOf o = 0) V aQ := (aQ_fr hM (hq' ⟨w.drew, Below.refl _ _⟩)).congr (fun _ _ => Iff.rfl) (fun j hj => by obtain ⟨o', ho', hz⟩ := hj; exact (hV j o' ho' hz).symm)
        have ea : a' = aQ := hF.ext (hFQ.congr (fun j hj => ⟨fun hx => by
            obtain ⟨o', ho', hz⟩ := hx
            by_cases hji : j < i
            · exact hups j hji
            · have : j = i := by omega
              subst this
              rw [hon] at ho'; cases ho'; omega, fun hu => by
            by_cases hji : j < i
            · exact (hallj j hji).2
            · have : j = i := by omega
              subst this
              exact absurd hu hn⟩) (fun _ _ => rfl))
        subst ea
        have hb0 := hJ'.below
        have hw := h w' ⟨hb0.os, hb0.tape, hb0.output, hb0.size, hb0.block⟩
        rw [hdrop] at hw
        have hwop : wpOp P l.toArray Q i (fun a w => Q .normal a w) a' w' := by
          unfold wpOp
          simp only [hon]
          unfold wpList at hw
          exact hw
        refine wpOp_mono (fun a2 w2 hQ => ⟨by simp [hJ.1], .inr ⟨fun j hj => (up_set hlt j).2 ?_, hQ⟩⟩) hwop
        by_cases hji : j < i
        · exact .inl (hups j hji)
        · exact .inr (by omega)
      · have hi' : i < n := by omega
        obtain ⟨_, o', ho', hk⟩ := hallj i hi'
        rw [ho] at ho'; cases ho'
        refine wpOp_mono (fun a2 w2 hJ2 => ⟨by simp [hJ.1], .inl ⟨fun hu => ?_, hJ2⟩⟩) (step_quiet' hM hq' (by simp) hJ' hi ho hk)
        rcases (up_set hlt n).1 hu with hu | hu
        · exact hn hu
        · exact hin hu.symm
    · exact absurd (hal i hilt) (not_up hun)
  · simp
  · refine ⟨by simp, .inl ⟨fun hu => ?_, by simp, fun j o _ hu => ?_, Below.refl _ _, valQ l.toArray aQ, fun _ _ _ _ => rfl, (Fr.start a (valQ l.toArray aQ)).congr (fun j hj => ⟨fun h => h.elim, fun hu => ?_⟩) (fun _ h => h.elim), ⟨fun m hm' => absurd hm' (by simp), fun m hm' => absurd hm' (by simp)⟩⟩⟩
    all_goals (unfold up at hu; rw [getD_rep] at hu; cases hu)
end
end Go.Proofs.YtnjeoeekidnffaaGreat
/- A region that draws its order, makes and fills one new variable, with quiet operations anywhere in its row. -/
namespace Go.Proofs.YtnjeoeekidnffaaGreat
open Go.RowKit SmWord
set_option maxRecDepth 100000

variable {P : Program} {Q : Exit → Act → World → Prop} {a : Act} {w : World} {l : List Oper} {aQ : Act}
def mkB' (ops : Array Oper) (ks : List (Nat × Nat × TypeId × Tmp × Tmp)) : Bool :=
  makeB ops && fwdB ops && (ks.all fun m => allocAt ops m && storeAt ops m) &&
  ((List.range ops.size).all fun i => match ops[i]? with | some o => (kindOf o != 1 || ks.any fun m => m.1 == i) && (kindOf o != 2 || ks.any fun m => m.2.1 == i) | none => true) &&
  (ks.all fun m => ks.all fun m' => (m.1 != m'.1 || m == m') && (m.2.1 != m'.2.1 || m == m') && m'.2.2.2.1 != m.2.2.2.2)
theorem madeOk' {ops : Array Oper} {ms : List Mk} (hB : mkB' ops (ms.map Mk.key) = true) (hkey : ∀ m ∈ ms, ∀ m' ∈ ms, m.key = m'.key → m = m') (hok : ∀ m ∈ ms, MkOk P aQ m) : MadeOk P ops aQ (ms.map Mk.made) := by
  simp only [mkB', Bool.and_eq_true] at hB
  obtain ⟨⟨⟨⟨hM, _⟩, hks⟩, hops⟩, hone⟩ := hB
  have hat : ∀ m ∈ ms, allocAt ops m.key = true ∧ storeAt ops m.key = true := fun m hm => by
    have := List.all_eq_true.1 hks m.key (List.mem_map.2 ⟨m, hm, rfl⟩)
    simpa using this
  have hdis : ∀ m ∈ ms, ∀ m' ∈ ms, (m.op = m'.op → m = m') ∧ (m.store = m'.store → m = m') ∧ m'.d ≠ m.e := fun m hm m' hm' => by
    have h1 := List.all_eq_true.1 hone m.key (List.mem_map.2 ⟨m, hm, rfl⟩)
    have h2 := List.all_eq_true.1 h1 m'.key (List.mem_map.2 ⟨m', hm', rfl⟩)
    simp only [Bool.and_eq_true, Bool.or_eq_true, bne_iff_ne, beq_iff_eq, ne_eq] at h2
    obtain ⟨⟨h3, h4⟩, h5⟩ := h2
    exact ⟨fun e => hkey m hm m' hm' (h3.resolve_left (fun h => h e)), fun e => hkey m hm m' hm' (h4.resolve_left (fun h => h e)), h5⟩
  have hO := makeB_once hM
  refine ⟨?_, ?_, ?_, ?_, ?_, ?_⟩
  · intro m0 hm0
    obtain ⟨m, hm, rfl⟩ := List.mem_map.1 hm0
    obtain ⟨o, ho, hg, _, hop⟩ := allocAt_spec (hat m hm).1
    exact ⟨o, ho, hg, by unfold kindOf; rw [hop], fun ρ w => run_alloc_row hop (hok m hm).zero ρ w⟩
  · intro m0 hm0
    obtain ⟨m, hm, rfl⟩ := List.mem_map.1 hm0
    obtain ⟨oa, hoa, _, hda, _⟩ := allocAt_spec (hat m hm).1
    obtain ⟨o, ho, hg, hd, hop⟩ := storeAt_spec (hat m hm).2
    have hok' := hok m hm
    refine ⟨o, m.d, .tmp m.e, ho, hg, hd, by unfold kindOf; rw [hop], ?_, hok'.slot, ?_, ?_, ?_, ?_, hok'.full, ?_⟩
    · show (ops[m.key.1]?).bind _ = _
      rw [hoa]; exact hda
    · rw [hop]; simp [Op.operands, Mk.key]
    · rw [hop]; simp [Op.operands, Mk.key]
    · intro m1 hm1 hd1
      obtain ⟨m', hm', rfl⟩ := List.mem_map.1 hm1
      obtain ⟨oa', hoa', _, hda', _⟩ := allocAt_spec (hat m' hm').1
      have hd1' : oa'.dst = some m.d := by
        have : (ops[m'.key.1]?).bind (·.dst) = some m.d := hd1
        rwa [hoa'] at this
      have := hO _ _ _ _ _ hoa' hoa hd1' hda
      rw [(hdis m' hm' m hm).1 this]
    · intro e he m1 hm1 hd1
      obtain ⟨m', hm', rfl⟩ := List.mem_map.1 hm1
      obtain ⟨oa', hoa', _, hda', _⟩ := allocAt_spec (hat m' hm').1
      have hd1' : oa'.dst = some e := by
        have : (ops[m'.key.1]?).bind (·.dst) = some e := hd1
        rwa [hoa'] at this
      rw [hda'] at hd1'
      cases he
      exact (hdis m hm m' hm').2.2 (Option.some.inj hd1')
    · exact fun ρ b w hp hx hb => run_store_row hop hok'.info hok'.size hok'.one ρ b w hp hx hb
  · intro i o ho hk
    have h1 := List.all_eq_true.1 hops i (List.mem_range.2 (Array.getElem?_eq_some_iff.1 ho).1)
    simp only [ho, Bool.and_eq_true, Bool.or_eq_true, bne_iff_ne, ne_eq] at h1
    obtain ⟨m0, hm0, he⟩ := List.any_eq_true.1 (h1.1.resolve_left (fun h => h hk))
    obtain ⟨m, hm, rfl⟩ := List.mem_map.1 hm0
    exact ⟨m.made, List.mem_map.2 ⟨m, hm, rfl⟩, beq_iff_eq.1 he⟩
  · intro i o ho hk
    have h1 := List.all_eq_true.1 hops i (List.mem_range.2 (Array.getElem?_eq_some_iff.1 ho).1)
    simp only [ho, Bool.and_eq_true, Bool.or_eq_true, bne_iff_ne, ne_eq] at h1
    obtain ⟨m0, hm0, he⟩ := List.any_eq_true.1 (h1.2.resolve_left (fun h => h hk))
    obtain ⟨m, hm, rfl⟩ := List.mem_map.1 hm0
    exact ⟨m.made, List.mem_map.2 ⟨m, hm, rfl⟩, beq_iff_eq.1 he⟩
  · intro m0 hm0 m1 hm1 he
    obtain ⟨m, hm, rfl⟩ := List.mem_map.1 hm0
    obtain ⟨m', hm', rfl⟩ := List.mem_map.1 hm1
    rw [(hdis m hm m' hm').1 he]
  · intro m0 hm0 m1 hm1 he
    obtain ⟨m, hm, rfl⟩ := List.mem_map.1 hm0
    obtain ⟨m', hm', rfl⟩ := List.mem_map.1 hm1
    rw [(hdis m hm m' hm').2.1 he]
theorem quietL_mid {n : Nat} (h : ((l.take n).all (kindOf · == 0) && ((l.drop n).take 2).all (fun o => !(kindOf o == 0)) && (l.drop (n + 2)).all (kindOf · == 0)) = true) : quietL l.toArray 0 = l.take n ++ l.drop (n + 2) := by
  simp only [Bool.and_eq_true, List.all_eq_true] at h
  obtain ⟨⟨h1, h2⟩, h3⟩ := h
  have e : l = l.take n ++ ((l.drop n).take 2 ++ l.drop (n + 2)) := by
    have h4 : l.drop (n + 2) = (l.drop n).drop 2 := by rw [List.drop_drop]
    rw [h4, List.take_append_drop, List.take_append_drop]
  unfold quietL
  rw [List.drop_zero]
  show l.filter _ = _
  conv => lhs; rw [e]
  rw [List.filter_append, List.filter_append, List.filter_eq_self.2 h1, List.filter_eq_self.2 h3, List.filter_eq_nil_iff.2 (fun o ho => by simpa using h2 o ho), List.nil_append]
/-- The quiet operations may stand ahead of the new variable's and behind them. -/
theorem region_mkA {id : Nat} (n : Nat) (m : Mk) (hm : P.follows .mixedOrders = true) (hB : mkB' l.toArray [m.key] = true)
    (hL : ((l.take n).all (kindOf · == 0) && ((l.drop n).take 2).all (fun o => !(kindOf o == 0)) && (l.drop (n + 2)).all (kindOf · == 0)) = true)
    (hq : ∀ w1 : Ext w.drew, wpQuiet P l.toArray (fun w' => ∃ g : Ext w1.on, w' = g.on) (fun a' => a' = aQ) (l.take n ++ l.drop (n + 2)) a) (hok : MkOk P aQ m)
    (h : ∀ (b : Nat) (w' : World), Below w.heap.size w w' → w.heap.size ≤ b → w'.heap[b]? = some (.cells m.full m.type) → Q .normal (aQ.put (some m.d) (.pointer (some ⟨b, 0, none⟩))) w') :
    (Code.region id l.toArray true).wp P Q a w := by
  have hMO := madeOk' (P := P) (aQ := aQ) (ms := [m]) (by simpa using hB) (by simp) (by simpa using hok)
  have hB' := hB
  simp only [mkB', Bool.and_eq_true] at hB'
  refine wp_region_make (ms := [m].map Mk.made) hm hB'.1.1.1.1 hB'.1.1.1.2 hMO (fun w1 => by rw [quietL_mid hL]; exact hq w1) (fun V w' hb hLi => ?_)
  obtain ⟨b, hV, h1, _, h3, _⟩ := hLi.here m.made (by simp) trivial
  obtain ⟨oa, hoa, _, hda, _⟩ := allocAt_spec (ops := l.toArray) (m := m.key) (by
    have := List.all_eq_true.1 hB'.1.1.2 m.key (by simp)
    simp only [Bool.and_eq_true] at this
    exact this.1)
  have e : (l.toArray[m.made.op]?).bind (·.dst) = some m.d := by
    show (l.toArray[m.key.1]?).bind _ = _
    rw [hoa]; exact hda
  have := h b w' hb h1 (h3 trivial)
  unfold endFrame
  simp only [List.map_cons, List.map_nil, List.foldl_cons, List.foldl_nil]
  rw [e, hV]
  exact this
section pure
variable {P : Program} {ops : Array Oper} {Q : Exit → Act → World → Prop} {a a0 aQ : Act} {w w0 : World} {ms : List Made} {listed : Array Bool} {i : Nat} {o : Oper}
/-- An operation that neither reads memory nor writes it. -/
def pureB (o : Oper) : Bool := match o.op with | .move _ => true | .assign _ => true | .extract _ _ => true | _ => false
theorem step_pure (hB : makeB ops = true) (hq : ∀ w1 : Ext w0, wpQuiet P ops (cls w1.on) (fun a' => a' = aQ) (quietL ops 0) a0)
    (hno : ∀ m ∈ ms, m.op ≠ i ∧ m.store ≠ i) (hJ : J ops w0 a0 aQ ms listed a w) (hi : i ∈ Region.ready .any ops listed) (ho : ops[i]? = some o) (hk : kindOf o = 0) (hp : pureB o = true) (S : World) :
    wpOp P ops Q i (fun a2 w2 => w2 = S ∧ J ops w0 a0 aQ ms (listed.setIfInBounds i true) a2 w) a S := by
  obtain ⟨hun, _⟩ := mem_ready' hi
  have hlt : i < listed.size := by rw [hJ.size]; exact (Array.getElem?_eq_some_iff.1 ho).1
  obtain ⟨V, hV, hF, hL⟩ := hJ.rest
  have hO := makeB_once hB
  obtain ⟨ai, v, hFi, hy, hv⟩ := quiet_each hO (C := cls w) (a0 := a0) (aQ := aQ) (P := P) _ 0 a0 rfl ((Fr.start a0 (valQ ops aQ)).congr (fun j _ => ⟨fun h => h.elim, fun h => absurd h.1 (Nat.not_lt_zero _)⟩) (fun _ h => h.elim)) (hq ⟨w, hJ.below⟩) i o (Nat.zero_le _) ho hk
  have hFi' : Fr ops a0 (fun j => j < i ∧ ∃ o, ops[j]? = some o ∧ kindOf o = 0) V ai := hFi.congr (fun _ _ => Iff.rfl) (fun j h => by obtain ⟨_, o', ho', hz⟩ := h; exact (hV j o' ho' hz).symm)
  have same : ∀ s ∈ o.looksAt ops, a.tmps[s]? = ai.tmps[s]? := fun s hs => hF.agree hFi' fun j oj hj hd => by
    by_cases hij : i = j
    · subst hij
      exact ⟨fun h => absurd h (not_up hun), fun h => absurd h.1 (Nat.lt_irrefl _)⟩
    · obtain ⟨h1, _⟩ := look_up hB hJ.closed hi ho hj hd hs hij
      obtain ⟨hz, hiff⟩ := h1 hk
      exact ⟨fun h => ⟨hiff.1 h, oj, hj, hz⟩, fun h => hiff.2 h.1⟩
  have hsel : ∀ cs b, o.op ≠ .select cs b := by
    have h0 : Region.noSelect ops = true := by simp only [makeB, Bool.and_eq_true] at hB; exact hB.1
    exact fun cs b => Region.noSelect_spec h0 i o cs b ho
  have hvi : valQ ops aQ i = V i := (hV i o ho hk).symm
  have fin : ∀ w', cls w w' → J ops w0 a0 aQ ms (listed.setIfInBounds i true) (a.put o.dst v) w' := fun w' hw' => by
    obtain ⟨g, rfl⟩ := hw'
    refine ⟨by simp [hJ.size], closed_set hJ.size hJ.closed hi, hJ.below.trans (g.below.mono hJ.below.size), V, hV, ?_, ?_⟩
    · rw [put_same (s := V) hF (fun d hd hl => (hv d hd hl).trans hvi)]
      exact (hF.put hO ho).congr (fun j _ => (up_set hlt j).symm) (fun _ _ => rfl)
    · refine ⟨fun m hm hu => ?_, fun m hm m' hm' hu hu' hne => ?_⟩
      · have hu' := ((up_set hlt _).1 hu).resolve_right (hno m hm).1
        obtain ⟨b, hb, h1, h2, h3, h4⟩ := hL.here m hm hu'
        refine ⟨b, hb, h1, Nat.lt_of_lt_of_le h2 g.below.size, fun hf => ?_, fun hf => ?_⟩
        · exact g.block (h3 (((up_set hlt _).1 hf).resolve_right (hno m hm).2))
        · exact g.block (h4 fun hf' => hf ((up_set hlt _).2 (.inl hf')))
      · exact hL.apart m hm m' hm' (((up_set hlt _).1 hu).resolve_right (hno m hm).1) (((up_set hlt _).1 hu').resolve_right (hno m' hm').1) hne
  unfold wpOp
  simp only [ho]
  rw [wanted_same o same]
  have hw0 : cls w w := ⟨⟨w, Below.refl _ _⟩, rfl⟩
  rcases hy with ⟨hw, hqa⟩ | ⟨hw, rfl⟩
  · rw [if_pos hw]
    refine .inl ?_
    have h1 := hqa w hw0
    unfold Oper.quietAt at h1
    rw [← exec_same o hsel same] at h1
    have h2 : (execOp a.eval o).run P S = .ok (.value v) S := by
      unfold pureB at hp
      split at hp
      · rename_i x hop
        unfold execOp at h1 ⊢
        simp only [hop, Sem.run_pure, Oper.quietUpon] at h1 ⊢
        rw [h1.2]
      · rename_i x hop
        unfold execOp at h1 ⊢
        simp only [hop, Sem.run_pure, Oper.quietUpon] at h1 ⊢
        rw [h1.2]
      · rename_i x k hop
        unfold execOp at h1 ⊢
        simp only [hop, Instr.extract] at h1 ⊢
        split at h1
        · rename_i vs hvs
          split at h1
          · rename_i u hu
            simp only [Sem.run_bind, Sem.run_pure, Result.andThen_ok, Oper.quietUpon] at h1 ⊢
            rw [h1.2]
          · simp [Oper.quietUpon, stuck] at h1
        · simp [Oper.quietUpon, stuck] at h1
      · cases hp
    unfold Oper.wp
    rw [h2]
    exact ⟨by first | trivial | rfl, fin w hw0⟩
  · rw [if_neg (by rw [hw]; exact Bool.false_ne_true)]
    exact ⟨by first | trivial | rfl, fin w hw0⟩
theorem quietL_one {l : List Oper} {n : Nat} (h : ((l.take n).all (kindOf · == 0) && ((l.drop n).take 1).all (fun o => !(kindOf o == 0)) && (l.drop (n + 1)).all (kindOf · == 0)) = true) : quietL l.toArray 0 = l.take n ++ l.drop (n + 1) := by
  simp only [Bool.and_eq_true, List.all_eq_true] at h
  obtain ⟨⟨h1, h2⟩, h3⟩ := h
  have e : l = l.take n ++ ((l.drop n).take 1 ++ l.drop (n + 1)) := by
    have h4 : l.drop (n + 1) = (l.drop n).drop 1 := by rw [List.drop_drop]
    rw [h4, List.take_append_drop, List.take_append_drop]
  unfold quietL
  rw [List.drop_zero]
  show l.filter _ = _
  conv => lhs; rw [e]
  rw [List.filter_append, List.filter_append, List.filter_eq_self.2 h1, List.filter_eq_self.2 h3, List.filter_eq_nil_iff.2 (fun o ho => by simpa using h2 o ho), List.nil_append]
/-- What is asked of a region with one store at place n: all else is quiet; what the store doesn't wait for neither reads memory nor writes it. -/
def lastB (l : List Oper) (n : Nat) : Bool :=
  makeB l.toArray && fwdB l.toArray && ((List.range l.toArray.size).all fun j => j == n || (match l.toArray[j]? with | some o => kindOf o == 0 && (waits2 l.toArray n j || pureB o) | none => false)) &&
  (match l.toArray[n]? with | some o => kindOf o == 2 && o.guard.isNone && o.dst.isNone | none => false) &&
  ((l.take n).all (kindOf · == 0) && ((l.drop n).take 1).all (fun o => !(kindOf o == 0)) && (l.drop (n + 1)).all (kindOf · == 0))
theorem region_lastA {l : List Oper} {id : Nat} (n : Nat) (hm : P.follows .mixedOrders = true) (hB : lastB l n = true)
    (hq : ∀ w1 : Ext w.drew, wpQuiet P l.toArray (fun w' => ∃ g : Ext w1.on, w' = g.on) (fun a' => a' = aQ) (l.take n ++ l.drop (n + 1)) a)
    (h : ∀ w' : World, Below w.heap.size w w' → wpList P l.toArray (fun e _ w2 => e = .normal ∧ Q .normal aQ w2) ((l.drop n).take 1) aQ w') : (Code.region id l.toArray true).wp P Q a w := by
  simp only [lastB, Bool.and_eq_true (a := _ && _ && _ && _)] at hB
  rw [Bool.and_eq_true, Bool.and_eq_true, Bool.and_eq_true] at hB
  obtain ⟨⟨⟨hM, hfwd⟩, hall⟩, hlast⟩ := hB.1
  have hqL := quietL_one hB.2
  obtain ⟨on, hon, hkn, hgn, hdn⟩ : ∃ o, l.toArray[n]? = some o ∧ kindOf o = 2 ∧ o.guard = none ∧ o.dst = none := by
    split at hlast
    · rename_i o ho
      simp only [Bool.and_eq_true, beq_iff_eq, Option.isNone_iff_eq_none] at hlast
      exact ⟨o, ho, hlast.1.1, hlast.1.2, hlast.2⟩
    · cases hlast
  have hallj : ∀ j o, l.toArray[j]? = some o → j ≠ n → kindOf o = 0 ∧ (waits2 l.toArray n j = true ∨ pureB o = true) := fun j o ho hj => by
    have := List.all_eq_true.1 hall j (List.mem_range.2 (Array.getElem?_eq_some_iff.1 ho).1)
    simp only [ho, Bool.or_eq_true, beq_iff_eq, Bool.and_eq_true] at this
    exact this.resolve_left hj
  have hq' : ∀ w1 : Ext w.drew, wpQuiet P l.toArray (cls w1.on) (fun a' => a' = aQ) (quietL l.toArray 0) a := fun w1 => by rw [hqL]; exact hq w1
  have hn : n < l.length := by have := (Array.getElem?_eq_some_iff.1 hon).1; simpa using this
  have hdrop : (l.drop n).take 1 = [on] := by
    rw [List.drop_eq_getElem_cons hn, List.take_succ_cons, List.take_zero]
    have : l[n] = on := by
      have h1 : l.toArray[n]? = some l[n] := by simp [hn]
      rw [hon] at h1; exact (Option.some.inj h1).symm
    rw [this]
  have hsel : ∀ cs b, on.op ≠ .select cs b := fun cs b e => by simp [kindOf, e] at hkn
  have hO := makeB_once hM
  refine wp_region_any hm ?_
  refine wpAny_inv (J := fun listed a' w' => listed.size = l.toArray.size ∧ ((¬ up listed n ∧ J l.toArray w.drew a aQ [] listed a' w') ∨ (up listed n ∧ ∃ ws, J l.toArray w.drew a aQ [] listed a' ws ∧ Q .normal aQ w'))) (fun listed a' w' hJ hal => ?_) (fun _ _ _ hJ => hJ.1) (fun listed a' w' hJ hr => ?_) (fun listed a' w' i o hJ hi ho => ?_) _ _ _ _ ?_ ?_
  · rcases hJ.2 with ⟨hu, _⟩ | ⟨_, ws, hJ', hQ⟩
    · exact absurd (hal n (by simpa using hn)) hu
    · obtain ⟨V, hV, hF, _⟩ := hJ'.rest
      have hFQ : Fr l.toArray a (fun j => ∃ o, l.toArray[j]? = some o ∧ kindOf o = 0) V aQ := (aQ_fr hM (hq' ⟨w.drew, Below.refl _ _⟩)).congr (fun _ _ => Iff.rfl) (fun j hj => by obtain ⟨o', ho', hz⟩ := hj; exact (hV j o' ho' hz).symm)
      have e : a' = aQ := by
        obtain ⟨t, d⟩ := a'
        have hag : ∀ s : Nat, t[s]? = aQ.tmps[s]? := fun s => hF.agree hFQ fun j oj hj hdj => by
          refine ⟨fun _ => ⟨oj, hj, ?_⟩, fun _ => hal j (Array.getElem?_eq_some_iff.1 hj).1⟩
          by_cases hjn : j = n
          · subst hjn
            rw [hon] at hj; cases hj
            rw [hdn] at hdj; cases hdj
          · exact (hallj j oj hj hjn).1
        have h1 : t = aQ.tmps := Array.ext_getElem? hag
        have h2 : d = aQ.defers := hF.defers.trans hFQ.defers.symm
        rw [h1, h2]
      rw [e]
      exact hQ
  · have key : ∀ w2, J l.toArray w.drew a aQ [] listed a' w2 → ∀ i, i < l.toArray.size → listed.getD i false = true := fun w2 hJ' => by
      intro i
      induction i using Nat.strongRecOn with
      | _ i ih =>
        intro hi
        apply Classical.byContradiction
        intro hnn
        have hin : i ∈ Region.ready .any l.toArray listed := by
          refine mem_ready.2 ⟨?_, l.toArray[i], Array.getElem?_eq_getElem hi, fun e he hb => ih e.on (fwdB_spec hfwd (Array.getElem?_eq_getElem hi) he hb) (Nat.lt_trans (fwdB_spec hfwd (Array.getElem?_eq_getElem hi) he hb) hi)⟩
          have hl : i < listed.size := by rw [hJ'.size]; exact hi
          simp [hl] at hnn ⊢
          exact hnn
        rw [hr] at hin
        cases hin
    rcases hJ.2 with ⟨_, hJ'⟩ | ⟨_, ws, hJ', _⟩
    · exact key _ hJ'
    · exact key _ hJ'
  · obtain ⟨hun, _⟩ := mem_ready' hi
    have hilt : i < l.toArray.size := (Array.getElem?_eq_some_iff.1 ho).1
    have hlt : i < listed.size := by rw [hJ.1]; exact hilt
    rcases hJ.2 with ⟨hu, hJ'⟩ | ⟨hu, ws, hJ', hQ⟩
    · by_cases hin : i = n
      · subst hin
        rw [hon] at ho; cases ho
        obtain ⟨V, hV, hF, hL⟩ := hJ'.rest
        have hFQ : Fr l.toArray a (fun j => ∃ o, l.toArray[j]? = some o ∧ kindOf o = 0) V aQ := (aQ_fr hM (hq' ⟨w.drew, Below.refl _ _⟩)).congr (fun _ _ => Iff.rfl) (fun j hj => by obtain ⟨o', ho', hz⟩ := hj; exact (hV j o' ho' hz).symm)
        have same : ∀ s ∈ on.looksAt l.toArray, a'.tmps[s]? = aQ.tmps[s]? := fun s hs => hF.agree hFQ fun j oj hj hd => by
          by_cases hij : i = j
          · subst hij
            rw [hon] at hj; cases hj
            rw [hdn] at hd; cases hd
          · have hk := (hallj j oj hj (fun e => hij e.symm)).1
            refine ⟨fun _ => ⟨oj, hj, hk⟩, fun _ => ?_⟩
            have h1 := makeB_pair hM hon hj hij
            simp only [pairB, hd, Bool.and_eq_true, Bool.or_eq_true] at h1
            have h2 := h1.2
            rw [if_neg (by rw [hkn]; decide)] at h2
            simp only [Bool.and_eq_true] at h2
            have h3 := h2.resolve_left (by simpa using hs)
            obtain ⟨o', ho', e, he, hb, hone⟩ := waitsB_spec h3.2
            obtain ⟨_, o2, ho2, hal2⟩ := mem_ready' hi
            rw [ho'] at ho2; cases ho2
            rw [← hone]; exact hal2 e he hb
        have hb0 := hJ'.below
        have hw := h w' ⟨hb0.os, hb0.tape, hb0.output, hb0.size, hb0.block⟩
        rw [hdrop] at hw
        unfold wpList at hw
        have hwt : Region.wanted on (yielded l.toArray aQ.tmps) = true := by unfold Region.wanted; rw [hgn]
        rw [if_pos hwt] at hw
        have hw2 : on.wp P aQ w' (wpList P l.toArray (fun e _ w2 => e = .normal ∧ Q .normal aQ w2) []) (fun e _ w2 => e = .normal ∧ Q .normal aQ w2) := by
          rcases hw with hw | ⟨_, hw⟩
          · exact hw
          · exact absurd hw (by simp [LetsOut])
        unfold wpOp
        simp only [hon]
        rw [wanted_same on same, if_pos hwt]
        refine .inl ?_
        unfold Oper.wp at hw2 ⊢
        rw [exec_same on hsel same]
        have hput : ∀ v, a'.put on.dst v = a' := fun v => by rw [hdn]; rfl
        have fin : ∀ (w2 : World) (a2 : Act), a2 = a' → Q .normal aQ w2 → (listed.setIfInBounds i true).size = l.toArray.size ∧ ((¬ up (listed.setIfInBounds i true) i ∧ J l.toArray w.drew a aQ [] (listed.setIfInBounds i true) a2 w2) ∨ (up (listed.setIfInBounds i true) i ∧ ∃ ws, J l.toArray w.drew a aQ [] (listed.setIfInBounds i true) a2 ws ∧ Q .normal aQ w2)) := fun w2 a2 e hQ => by
          subst e
          refine ⟨by simp [hJ.1], .inr ⟨(up_set hlt i).2 (.inr rfl), w', ⟨by simp [hJ'.size], closed_set hJ'.size hJ'.closed hi, hJ'.below, V, hV, ?_, ⟨fun m hm' => absurd hm' (by simp), fun m hm' => absurd hm' (by simp)⟩⟩, hQ⟩⟩
          have hp := hF.put hO hon
          rw [hput] at hp
          exact hp.congr (fun j _ => (up_set hlt j).symm) (fun _ _ => rfl)
        unfold kindOf at hkn
        split at hkn
        · cases hkn
        · rename_i t p x hop
          unfold execOp at hw2 ⊢
          simp only [hop, Sem.run_bind] at hw2 ⊢
          generalize (Instr.storeAt t (aQ.eval p) (aQ.eval x)).run P w' = r at *
          cases r with
          | ok u w2 =>
            simp only [Result.andThen_ok, Sem.run_pure, Oper.upon, wpList] at hw2 ⊢
            exact fin w2 _ (hput undef) hw2.2
          | halt hh w2 =>
            simp only [Result.andThen] at hw2 ⊢
            cases hh with
            | panic v => simp [Oper.upon] at hw2
            | _ => simp [Oper.upon] at hw2
        · cases hkn
      · refine wpOp_mono (fun a2 w2 hJ2 => ⟨by simp [hJ.1], .inl ⟨fun hu2 => ?_, hJ2⟩⟩) (step_quiet' hM hq' (by simp) hJ' hi ho (hallj i o ho hin).1)
        rcases (up_set hlt n).1 hu2 with hu2 | hu2
        · exact hu hu2
        · exact hin hu2.symm
    · have hin : i ≠ n := fun e => by subst e; exact absurd hu (not_up hun)
      obtain ⟨hk, hpw⟩ := hallj i o ho hin
      have hone : ∀ j, waitsB l.toArray n j = true → up listed j := fun j hw => by
        obtain ⟨o', ho', e, he, hb, hone⟩ := waitsB_spec hw
        rw [← hone]
        exact hJ'.closed n o' ho' hu e he hb
      have hp : pureB o = true := hpw.resolve_left fun h2 => by
        refine absurd ?_ (not_up hun)
        simp only [waits2, Bool.or_eq_true] at h2
        rcases h2 with h2 | h2
        · exact hone i h2
        · obtain ⟨m, _, hm2⟩ := List.any_eq_true.1 h2
          simp only [Bool.and_eq_true] at hm2
          obtain ⟨o', ho', e, he, hb, hon'⟩ := waitsB_spec hm2.2
          rw [← hon']
          exact hJ'.closed m o' ho' (hone m hm2.1) e he hb
      refine wpOp_mono (fun a2 w2 hJ2 => ?_) (step_pure hM hq' (by simp) hJ' hi ho hk hp w')
      obtain ⟨rfl, hJ3⟩ := hJ2
      exact ⟨by simp [hJ.1], .inr ⟨(up_set hlt n).2 (.inl hu), ws, hJ3, hQ⟩⟩
  · simp
  · refine ⟨by simp, .inl ⟨fun hu => ?_, by simp, fun j o _ hu => ?_, Below.refl _ _, valQ l.toArray aQ, fun _ _ _ _ => rfl, (Fr.start a (valQ l.toArray aQ)).congr (fun j hj => ⟨fun h => h.elim, fun hu => ?_⟩) (fun _ h => h.elim), ⟨fun m hm' => absurd hm' (by simp), fun m hm' => absurd hm' (by simp)⟩⟩⟩
    all_goals (unfold up at hu; rw [getD_rep] at hu; cases hu)
end pure
theorem ext2_cell {w : World} (w1 : Ext w.drew) (g : Ext w1.on) {b off : Nat} {v : Value} (h : w.cell? ⟨b, off, none⟩ = some v) : g.on.cell? ⟨b, off, none⟩ = some v := by
  have hlt : b < w.heap.size := by simpa using World.block_lt_of_cell? w _ h
  have h0 : b < w1.on.heap.size := Nat.lt_of_lt_of_le hlt w1.below.size
  rw [g.below.cell (p := ⟨b, off, none⟩) h0, w1.below.cell (p := ⟨b, off, none⟩) hlt]
  exact h
end Go.Proofs.YtnjeoeekidnffaaGreat
