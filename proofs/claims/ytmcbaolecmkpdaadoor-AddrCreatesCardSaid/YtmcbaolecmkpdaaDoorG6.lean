/- A region that draws its order, makes and fills one new variable, with quiet operations anywhere in its row. -/
import Derived.Test.YtmcbaolecmkpdaaDoorG5
namespace Go.Proofs.YtmcbaolecmkpdaaDoor
open Go.RowKit SmWord
set_option maxRecDepth 100000

variable {P : Program} {Q : Exit → Act → World → Prop} {a : Act} {w : World} {l : List Oper} {aQ : Act}
def mkB' (ops : Array Oper) (ks : List (Nat × Nat × TypeId × Tmp × Tmp)) : Bool :=
  makeB ops && fwdB ops && (ks.all fun m => allocAt ops m && storeAt ops m) &&
  ((List.range ops.size).all fun i => match ops[i]? with | some o => (kindOf o != 1 || ks.any fun m => m.1 == i) && (kindOf o != 2 || ks.any fun m => m.2.1 == i) | none => true) &&
  (ks.all fun m => ks.all fun m' => (m.1 != m'.1 || m == m') && (m.2.1 != m'.2.1 || m == m') && m'.2.2.2.1 != m.2.2.2.2)
theorem madeOk' {ops : Array Oper} {ms : List Mk} (hB : mkB' ops (ms.map Mk.key) = true) (hkey : ∀ m ∈ ms, ∀ m' ∈ ms, m.key = m'.key → m = m') (hok : ∀ m ∈ ms, MkOk P aQ m) : MadeOk P ops aQ (ms.map Mk.made) := by
  simp only [mkB', Bool.and_eq_true] at hB
  obtain ⟨⟨⟨⟨hM, _⟩, hks⟩, hops⟩, hone⟩ := hB
  have hat : ∀ m ∈ ms, allocAt ops m.key = true ∧ storeAt ops m.key = true := fun m hm => by
    have := List.all_eq_true.1 hks m.key (List.mem_map.2 ⟨m, hm, rfl⟩)
    simpa using this
  have hdis : ∀ m ∈ ms, ∀ m' ∈ ms, (m.op = m'.op → m = m') ∧ (m.store = m'.store → m = m') ∧ m'.d ≠ m.e := fun m hm m' hm' => by
    have h1 := List.all_eq_true.1 hone m.key (List.mem_map.2 ⟨m, hm, rfl⟩)
    have h2 := List.all_eq_true.1 h1 m'.key (List.mem_map.2 ⟨m', hm', rfl⟩)
    simp only [Bool.and_eq_true, Bool.or_eq_true, bne_iff_ne, beq_iff_eq, ne_eq] at h2
    obtain ⟨⟨h3, h4⟩, h5⟩ := h2
    exact ⟨fun e => hkey m hm m' hm' (h3.resolve_left (fun h => h e)), fun e => hkey m hm m' hm' (h4.resolve_left (fun h => h e)), h5⟩
  have hO := makeB_once hM
  refine ⟨?_, ?_, ?_, ?_, ?_, ?_⟩
  · intro m0 hm0
    obtain ⟨m, hm, rfl⟩ := List.mem_map.1 hm0
    obtain ⟨o, ho, hg, _, hop⟩ := allocAt_spec (hat m hm).1
    exact ⟨o, ho, hg, by unfold kindOf; rw [hop], fun ρ w => run_alloc_row hop (hok m hm).zero ρ w⟩
  · intro m0 hm0
    obtain ⟨m, hm, rfl⟩ := List.mem_map.1 hm0
    obtain ⟨oa, hoa, _, hda, _⟩ := allocAt_spec (hat m hm).1
    obtain ⟨o, ho, hg, hd, hop⟩ := storeAt_spec (hat m hm).2
    have hok' := hok m hm
    refine ⟨o, m.d, .tmp m.e, ho, hg, hd, by unfold kindOf; rw [hop], ?_, hok'.slot, ?_, ?_, ?_, ?_, hok'.full, ?_⟩
    · show (ops[m.key.1]?).bind _ = _
      rw [hoa]; exact hda
    · rw [hop]; simp [Op.operands, Mk.key]
    · rw [hop]; simp [Op.operands, Mk.key]
    · intro m1 hm1 hd1
      obtain ⟨m', hm', rfl⟩ := List.mem_map.1 hm1
      obtain ⟨oa', hoa', _, hda', _⟩ := allocAt_spec (hat m' hm').1
      have hd1' : oa'.dst = some m.d := by
        have : (ops[m'.key.1]?).bind (·.dst) = some m.d := hd1
        rwa [hoa'] at this
      have := hO _ _ _ _ _ hoa' hoa hd1' hda
      rw [(hdis m' hm' m hm).1 this]
    · intro e he m1 hm1 hd1
      obtain ⟨m', hm', rfl⟩ := List.mem_map.1 hm1
      obtain ⟨oa', hoa', _, hda', _⟩ := allocAt_spec (hat m' hm').1
      have hd1' : oa'.dst = some e := by
        have : (ops[m'.key.1]?).bind (·.dst) = some e := hd1
        rwa [hoa'] at this
      rw [hda'] at hd1'
      cases he
      exact (hdis m hm m' hm').2.2 (Option.some.inj hd1')
    · exact fun ρ b w hp hx hb => run_store_row hop hok'.info hok'.size hok'.one ρ b w hp hx hb
  · intro i o ho hk
    have h1 := List.all_eq_true.1 hops i (List.mem_range.2 (Array.getElem?_eq_some_iff.1 ho).1)
    simp only [ho, Bool.and_eq_true, Bool.or_eq_true, bne_iff_ne, ne_eq] at h1
    obtain ⟨m0, hm0, he⟩ := List.any_eq_true.1 (h1.1.resolve_left (fun h => h hk))
    obtain ⟨m, hm, rfl⟩ := List.mem_map.1 hm0
    exact ⟨m.made, List.mem_map.2 ⟨m, hm, rfl⟩, beq_iff_eq.1 he⟩
  · intro i o ho hk
    have h1 := List.all_eq_true.1 hops i (List.mem_range.2 (Array.getElem?_eq_some_iff.1 ho).1)
    simp only [ho, Bool.and_eq_true, Bool.or_eq_true, bne_iff_ne, ne_eq] at h1
    obtain ⟨m0, hm0, he⟩ := List.any_eq_true.1 (h1.2.resolve_left (fun h => h hk))
    obtain ⟨m, hm, rfl⟩ := List.mem_map.1 hm0
    exact ⟨m.made, List.mem_map.2 ⟨m, hm, rfl⟩, beq_iff_eq.1 he⟩
  · intro m0 hm0 m1 hm1 he
    obtain ⟨m, hm, rfl⟩ := List.mem_map.1 hm0
    obtain ⟨m', hm', rfl⟩ := List.mem_map.1 hm1
    rw [(hdis m hm m' hm').1 he]
  · intro m0 hm0 m1 hm1 he
    obtain ⟨m, hm, rfl⟩ := List.mem_map.1 hm0
    obtain ⟨m', hm', rfl⟩ := List.mem_map.1 hm1
    rw [(hdis m hm m' hm').2.1 he]
theorem quietL_mid {n : Nat} (h : ((l.take n).all (kindOf · == 0) && ((l.drop n).take 2).all (fun o => !(kindOf o == 0)) && (l.drop (n + 2)).all (kindOf · == 0)) = true) : quietL l.toArray 0 = l.take n ++ l.drop (n + 2) := by
  simp only [Bool.and_eq_true, List.all_eq_true] at h
  obtain ⟨⟨h1, h2⟩, h3⟩ := h
  have e : l = l.take n ++ ((l.drop n).take 2 ++ l.drop (n + 2)) := by
    have h4 : l.drop (n + 2) = (l.drop n).drop 2 := by rw [List.drop_drop]
    rw [h4, List.take_append_drop, List.take_append_drop]
  unfold quietL
  rw [List.drop_zero]
  show l.filter _ = _
  conv => lhs; rw [e]
  rw [List.filter_append, List.filter_append, List.filter_eq_self.2 h1, List.filter_eq_self.2 h3, List.filter_eq_nil_iff.2 (fun o ho => by simpa using h2 o ho), List.nil_append]
/-- The quiet operations may stand ahead of the new variable's and behind them. -/
theorem region_mkA {id : Nat} (n : Nat) (m : Mk) (hm : P.follows .mixedOrders = true) (hB : mkB' l.toArray [m.key] = true)
    (hL : ((l.take n).all (kindOf · == 0) && ((l.drop n).take 2).all (fun o => !(kindOf o == 0)) && (l.drop (n + 2)).all (kindOf · == 0)) = true)
    (hq : ∀ w1 : Ext w.drew, wpQuiet P l.toArray (fun w' => ∃ g : Ext w1.on, w' = g.on) (fun a' => a' = aQ) (l.take n ++ l.drop (n + 2)) a) (hok : MkOk P aQ m)
    (h : ∀ (b : Nat) (w' : World), Below w.heap.size w w' → w.heap.size ≤ b → w'.heap[b]? = some (.cells m.full m.type) → Q .normal (aQ.put (some m.d) (.pointer (some ⟨b, 0, none⟩))) w') :
    (Code.region id l.toArray true).wp P Q a w := by
  have hMO := madeOk' (P := P) (aQ := aQ) (ms := [m]) (by simpa using hB) (by simp) (by simpa using hok)
  have hB' := hB
  simp only [mkB', Bool.and_eq_true] at hB'
  refine wp_region_make (ms := [m].map Mk.made) hm hB'.1.1.1.1 hB'.1.1.1.2 hMO (fun w1 => by rw [quietL_mid hL]; exact hq w1) (fun V w' hb hLi => ?_)
  obtain ⟨b, hV, h1, _, h3, _⟩ := hLi.here m.made (by simp) trivial
  obtain ⟨oa, hoa, _, hda, _⟩ := allocAt_spec (ops := l.toArray) (m := m.key) (by
    have := List.all_eq_true.1 hB'.1.1.2 m.key (by simp)
    simp only [Bool.and_eq_true] at this
    exact this.1)
  have e : (l.toArray[m.made.op]?).bind (·.dst) = some m.d := by
    show (l.toArray[m.key.1]?).bind _ = _
    rw [hoa]; exact hda
  have := h b w' hb h1 (h3 trivial)
  unfold endFrame
  simp only [List.map_cons, List.map_nil, List.foldl_cons, List.foldl_nil]
  rw [e, hV]
  exact this
section pure
variable {P : Program} {ops : Array Oper} {Q : Exit → Act → World → Prop} {a a0 aQ : Act} {w w0 : World} {ms : List Made} {listed : Array Bool} {i : Nat} {o : Oper}
/-- An operation that neither reads memory nor writes it. -/
def pureB (o : Oper) : Bool := match o.op with | .move _ => true | .assign _ => true | .extract _ _ => true | _ => false
theorem step_pure (hB : makeB ops = true) (hq : ∀ w1 : Ext w0, wpQuiet P ops (cls w1.on) (fun a' => a' = aQ) (quietL ops 0) a0)
    (hno : ∀ m ∈ ms, m.op ≠ i ∧ m.store ≠ i) (hJ : J ops w0 a0 aQ ms listed a w) (hi : i ∈ Region.ready .any ops listed) (ho : ops[i]? = some o) (hk : kindOf o = 0) (hp : pureB o = true) (S : World) :
    wpOp P ops Q i (fun a2 w2 => w2 = S ∧ J ops w0 a0 aQ ms (listed.setIfInBounds i true) a2 w) a S := by
  obtain ⟨hun, _⟩ := mem_ready' hi
  have hlt : i < listed.size := by rw [hJ.size]; exact (Array.getElem?_eq_some_iff.1 ho).1
  obtain ⟨V, hV, hF, hL⟩ := hJ.rest
  have hO := makeB_once hB
  obtain ⟨ai, v, hFi, hy, hv⟩ := quiet_each hO (C := cls w) (a0 := a0) (aQ := aQ) (P := P) _ 0 a0 rfl ((Fr.start a0 (valQ ops aQ)).congr (fun j _ => ⟨fun h => h.elim, fun h => absurd h.1 (Nat.not_lt_zero _)⟩) (fun _ h => h.elim)) (hq ⟨w, hJ.below⟩) i o (Nat.zero_le _) ho hk
  have hFi' : Fr ops a0 (fun j => j < i ∧ ∃ o, ops[j]? = some o ∧ kindOf o = 0) V ai := hFi.congr (fun _ _ => Iff.rfl) (fun j h => by obtain ⟨_, o', ho', hz⟩ := h; exact (hV j o' ho' hz).symm)
  have same : ∀ s ∈ o.looksAt ops, a.tmps[s]? = ai.tmps[s]? := fun s hs => hF.agree hFi' fun j oj hj hd => by
    by_cases hij : i = j
    · subst hij
      exact ⟨fun h => absurd h (not_up hun), fun h => absurd h.1 (Nat.lt_irrefl _)⟩
    · obtain ⟨h1, _⟩ := look_up hB hJ.closed hi ho hj hd hs hij
      obtain ⟨hz, hiff⟩ := h1 hk
      exact ⟨fun h => ⟨hiff.1 h, oj, hj, hz⟩, fun h => hiff.2 h.1⟩
  have hsel : ∀ cs b, o.op ≠ .select cs b := by
    have h0 : Region.noSelect ops = true := by simp only [makeB, Bool.and_eq_true] at hB; exact hB.1
    exact fun cs b => Region.noSelect_spec h0 i o cs b ho
  have hvi : valQ ops aQ i = V i := (hV i o ho hk).symm
  have fin : ∀ w', cls w w' → J ops w0 a0 aQ ms (listed.setIfInBounds i true) (a.put o.dst v) w' := fun w' hw' => by
    obtain ⟨g, rfl⟩ := hw'
    refine ⟨by simp [hJ.size], closed_set hJ.size hJ.closed hi, hJ.below.trans (g.below.mono hJ.below.size), V, hV, ?_, ?_⟩
    · rw [put_same (s := V) hF (fun d hd hl => (hv d hd hl).trans hvi)]
      exact (hF.put hO ho).congr (fun j _ => (up_set hlt j).symm) (fun _ _ => rfl)
    · refine ⟨fun m hm hu => ?_, fun m hm m' hm' hu hu' hne => ?_⟩
      · have hu' := ((up_set hlt _).1 hu).resolve_right (hno m hm).1
        obtain ⟨b, hb, h1, h2, h3, h4⟩ := hL.here m hm hu'
        refine ⟨b, hb, h1, Nat.lt_of_lt_of_le h2 g.below.size, fun hf => ?_, fun hf => ?_⟩
        · exact g.block (h3 (((up_set hlt _).1 hf).resolve_right (hno m hm).2))
        · exact g.block (h4 fun hf' => hf ((up_set hlt _).2 (.inl hf')))
      · exact hL.apart m hm m' hm' (((up_set hlt _).1 hu).resolve_right (hno m hm).1) (((up_set hlt _).1 hu').resolve_right (hno m' hm').1) hne
  unfold wpOp
  simp only [ho]
  rw [wanted_same o same]
  have hw0 : cls w w := ⟨⟨w, Below.refl _ _⟩, rfl⟩
  rcases hy with ⟨hw, hqa⟩ | ⟨hw, rfl⟩
  · rw [if_pos hw]
    refine .inl ?_
    have h1 := hqa w hw0
    unfold Oper.quietAt at h1
    rw [← exec_same o hsel same] at h1
    have h2 : (execOp a.eval o).run P S = .ok (.value v) S := by
      unfold pureB at hp
      split at hp
      · rename_i x hop
        unfold execOp at h1 ⊢
        simp only [hop, Sem.run_pure, Oper.quietUpon] at h1 ⊢
        rw [h1.2]
      · rename_i x hop
        unfold execOp at h1 ⊢
        simp only [hop, Sem.run_pure, Oper.quietUpon] at h1 ⊢
        rw [h1.2]
      · rename_i x k hop
        unfold execOp at h1 ⊢
        simp only [hop, Instr.extract] at h1 ⊢
        split at h1
        · rename_i vs hvs
          split at h1
          · rename_i u hu
            simp only [Sem.run_bind, Sem.run_pure, Result.andThen_ok, Oper.quietUpon] at h1 ⊢
            rw [h1.2]
          · simp [Oper.quietUpon, stuck] at h1
        · simp [Oper.quietUpon, stuck] at h1
      · cases hp
    unfold Oper.wp
    rw [h2]
    exact ⟨by first | trivial | rfl, fin w hw0⟩
  · rw [if_neg (by rw [hw]; exact Bool.false_ne_true)]
    exact ⟨by first | trivial | rfl, fin w hw0⟩
theorem quietL_one {l : List Oper} {n : Nat} (h : ((l.take n).all (kindOf · == 0) && ((l.drop n).take 1).all (fun o => !(kindOf o == 0)) && (l.drop (n + 1)).all (kindOf · == 0)) = true) : quietL l.toArray 0 = l.take n ++ l.drop (n + 1) := by
  simp only [Bool.and_eq_true, List.all_eq_true] at h
  obtain ⟨⟨h1, h2⟩, h3⟩ := h
  have e : l = l.take n ++ ((l.drop n).take 1 ++ l.drop (n + 1)) := by
    have h4 : l.drop (n + 1) = (l.drop n).drop 1 := by rw [List.drop_drop]
    rw [h4, List.take_append_drop, List.take_append_drop]
  unfold quietL
  rw [List.drop_zero]
  show l.filter _ = _
  conv => lhs; rw [e]
  rw [List.filter_append, List.filter_append, List.filter_eq_self.2 h1, List.filter_eq_self.2 h3, List.filter_eq_nil_iff.2 (fun o ho => by simpa using h2 o ho), List.nil_append]
/-- What is asked of a region with one store at place n: all else is quiet; what the store doesn't wait for neither reads memory nor writes it. -/
def lastB (l : List Oper) (n : Nat) : Bool :=
  makeB l.toArray && fwdB l.toArray && ((List.range l.toArray.size).all fun j => j == n || (match l.toArray[j]? with | some o => kindOf o == 0 && (waits2 l.toArray n j || pureB o) | none => false)) &&
  (match l.toArray[n]? with | some o => kindOf o == 2 && o.guard.isNone && o.dst.isNone | none => false) &&
  ((l.take n).all (kindOf · == 0) && ((l.drop n).take 1).all (fun o => !(kindOf o == 0)) && (l.drop (n + 1)).all (kindOf · == 0))
theorem region_lastA {l : List Oper} {id : Nat} (n : Nat) (hm : P.follows .mixedOrders = true) (hB : lastB l n = true)
    (hq : ∀ w1 : Ext w.drew, wpQuiet P l.toArray (fun w' => ∃ g : Ext w1.on, w' = g.on) (fun a' => a' = aQ) (l.take n ++ l.drop (n + 1)) a)
    (h : ∀ w' : World, Below w.heap.size w w' → wpList P l.toArray (fun e _ w2 => e = .normal ∧ Q .normal aQ w2) ((l.drop n).take 1) aQ w') : (Code.region id l.toArray true).wp P Q a w := by
  simp only [lastB, Bool.and_eq_true (a := _ && _ && _ && _)] at hB
  rw [Bool.and_eq_true, Bool.and_eq_true, Bool.and_eq_true] at hB
  obtain ⟨⟨⟨hM, hfwd⟩, hall⟩, hlast⟩ := hB.1
  have hqL := quietL_one hB.2
  obtain ⟨on, hon, hkn, hgn, hdn⟩ : ∃ o, l.toArray[n]? = some o ∧ kindOf o = 2 ∧ o.guard = none ∧ o.dst = none := by
    split at hlast
    · rename_i o ho
      simp only [Bool.and_eq_true, beq_iff_eq, Option.isNone_iff_eq_none] at hlast
      exact ⟨o, ho, hlast.1.1, hlast.1.2, hlast.2⟩
    · cases hlast
  have hallj : ∀ j o, l.toArray[j]? = some o → j ≠ n → kindOf o = 0 ∧ (waits2 l.toArray n j = true ∨ pureB o = true) := fun j o ho hj => by
    have := List.all_eq_true.1 hall j (List.mem_range.2 (Array.getElem?_eq_some_iff.1 ho).1)
    simp only [ho, Bool.or_eq_true, beq_iff_eq, Bool.and_eq_true] at this
    exact this.resolve_left hj
  have hq' : ∀ w1 : Ext w.drew, wpQuiet P l.toArray (cls w1.on) (fun a' => a' = aQ) (quietL l.toArray 0) a := fun w1 => by rw [hqL]; exact hq w1
  have hn : n < l.length := by have := (Array.getElem?_eq_some_iff.1 hon).1; simpa using this
  have hdrop : (l.drop n).take 1 = [on] := by
    rw [List.drop_eq_getElem_cons hn, List.take_succ_cons, List.take_zero]
    have : l[n] = on := by
      have h1 : l.toArray[n]? = some l[n] := by simp [hn]
      rw [hon] at h1; exact (Option.some.inj h1).symm
    rw [this]
  have hsel : ∀ cs b, on.op ≠ .select cs b := fun cs b e => by simp [kindOf, e] at hkn
  have hO := makeB_once hM
  refine wp_region_any hm ?_
  refine wpAny_inv (J := fun listed a' w' => listed.size = l.toArray.size ∧ ((¬ up listed n ∧ J l.toArray w.drew a aQ [] listed a' w') ∨ (up listed n ∧ ∃ ws, J l.toArray w.drew a aQ [] listed a' ws ∧ Q .normal aQ w'))) (fun listed a' w' hJ hal => ?_) (fun _ _ _ hJ => hJ.1) (fun listed a' w' hJ hr => ?_) (fun listed a' w' i o hJ hi ho => ?_) _ _ _ _ ?_ ?_
  · rcases hJ.2 with ⟨hu, _⟩ | ⟨_, ws, hJ', hQ⟩
    · exact absurd (hal n (by simpa using hn)) hu
    · obtain ⟨V, hV, hF, _⟩ := hJ'.rest
      have hFQ : Fr l.toArray a (fun j => ∃ o, l.toArray[j]? = some o ∧ kindOf o = 0) V aQ := (aQ_fr hM (hq' ⟨w.drew, Below.refl _ _⟩)).congr (fun _ _ => Iff.rfl) (fun j hj => by obtain ⟨o', ho', hz⟩ := hj; exact (hV j o' ho' hz).symm)
      have e : a' = aQ := by
        obtain ⟨t, d⟩ := a'
        have hag : ∀ s : Nat, t[s]? = aQ.tmps[s]? := fun s => hF.agree hFQ fun j oj hj hdj => by
          refine ⟨fun _ => ⟨oj, hj, ?_⟩, fun _ => hal j (Array.getElem?_eq_some_iff.1 hj).1⟩
          by_cases hjn : j = n
          · subst hjn
            rw [hon] at hj; cases hj
            rw [hdn] at hdj; cases hdj
          · exact (hallj j oj hj hjn).1
        have h1 : t = aQ.tmps := Array.ext_getElem? hag
        have h2 : d = aQ.defers := hF.defers.trans hFQ.defers.symm
        rw [h1, h2]
      rw [e]
      exact hQ
  · have key : ∀ w2, J l.toArray w.drew a aQ [] listed a' w2 → ∀ i, i < l.toArray.size → listed.getD i false = true := fun w2 hJ' => by
      intro i
      induction i using Nat.strongRecOn with
      | _ i ih =>
        intro hi
        apply Classical.byContradiction
        intro hnn
        have hin : i ∈ Region.ready .any l.toArray listed := by
          refine mem_ready.2 ⟨?_, l.toArray[i], Array.getElem?_eq_getElem hi, fun e he hb => ih e.on (fwdB_spec hfwd (Array.getElem?_eq_getElem hi) he hb) (Nat.lt_trans (fwdB_spec hfwd (Array.getElem?_eq_getElem hi) he hb) hi)⟩
          have hl : i < listed.size := by rw [hJ'.size]; exact hi
          simp [hl] at hnn ⊢
          exact hnn
        rw [hr] at hin
        cases hin
    rcases hJ.2 with ⟨_, hJ'⟩ | ⟨_, ws, hJ', _⟩
    · exact key _ hJ'
    · exact key _ hJ'
  · obtain ⟨hun, _⟩ := mem_ready' hi
    have hilt : i < l.toArray.size := (Array.getElem?_eq_some_iff.1 ho).1
    have hlt : i < listed.size := by rw [hJ.1]; exact hilt
    rcases hJ.2 with ⟨hu, hJ'⟩ | ⟨hu, ws, hJ', hQ⟩
    · by_cases hin : i = n
      · subst hin
        rw [hon] at ho; cases ho
        obtain ⟨V, hV, hF, hL⟩ := hJ'.rest
        have hFQ : Fr l.toArray a (fun j => ∃ o, l.toArray[j]? = some o ∧ kindOf o = 0) V aQ := (aQ_fr hM (hq' ⟨w.drew, Below.refl _ _⟩)).congr (fun _ _ => Iff.rfl) (fun j hj => by obtain ⟨o', ho', hz⟩ := hj; exact (hV j o' ho' hz).symm)
        have same : ∀ s ∈ on.looksAt l.toArray, a'.tmps[s]? = aQ.tmps[s]? := fun s hs => hF.agree hFQ fun j oj hj hd => by
          by_cases hij : i = j
          · subst hij
            rw [hon] at hj; cases hj
            rw [hdn] at hd; cases hd
          · have hk := (hallj j oj hj (fun e => hij e.symm)).1
            refine ⟨fun _ => ⟨oj, hj, hk⟩, fun _ => ?_⟩
            have h1 := makeB_pair hM hon hj hij
            simp only [pairB, hd, Bool.and_eq_true, Bool.or_eq_true] at h1
            have h2 := h1.2
            rw [if_neg (by rw [hkn]; decide)] at h2
            simp only [Bool.and_eq_true] at h2
            have h3 := h2.resolve_left (by simpa using hs)
            obtain ⟨o', ho', e, he, hb, hone⟩ := waitsB_spec h3.2
            obtain ⟨_, o2, ho2, hal2⟩ := mem_ready' hi
            rw [ho'] at ho2; cases ho2
            rw [← hone]; exact hal2 e he hb
        have hb0 := hJ'.below
        have hw := h w' ⟨hb0.os, hb0.tape, hb0.output, hb0.size, hb0.block⟩
        rw [hdrop] at hw
        unfold wpList at hw
        have hwt : Region.wanted on (yielded l.toArray aQ.tmps) = true := by unfold Region.wanted; rw [hgn]
        rw [if_pos hwt] at hw
        have hw2 : on.wp P aQ w' (wpList P l.toArray (fun e _ w2 => e = .normal ∧ Q .normal aQ w2) []) (fun e _ w2 => e = .normal ∧ Q .normal aQ w2) := by
          rcases hw with hw | ⟨_, hw⟩
          · exact hw
          · exact absurd hw (by simp [LetsOut])
        unfold wpOp
        simp only [hon]
        rw [wanted_same on same, if_pos hwt]
        refine .inl ?_
        unfold Oper.wp at hw2 ⊢
        rw [exec_same on hsel same]
        have hput : ∀ v, a'.put on.dst v = a' := fun v => by rw [hdn]; rfl
        have fin : ∀ (w2 : World) (a2 : Act), a2 = a' → Q .normal aQ w2 → (listed.setIfInBounds i true).size = l.toArray.size ∧ ((¬ up (listed.setIfInBounds i true) i ∧ J l.toArray w.drew a aQ [] (listed.setIfInBounds i true) a2 w2) ∨ (up (listed.setIfInBounds i true) i ∧ ∃ ws, J l.toArray w.drew a aQ [] (listed.setIfInBounds i true) a2 ws ∧ Q .normal aQ w2)) := fun w2 a2 e hQ => by
          subst e
          refine ⟨by simp [hJ.1], .inr ⟨(up_set hlt i).2 (.inr rfl), w', ⟨by simp [hJ'.size], closed_set hJ'.size hJ'.closed hi, hJ'.below, V, hV, ?_, ⟨fun m hm' => absurd hm' (by simp), fun m hm' => absurd hm' (by simp)⟩⟩, hQ⟩⟩
          have hp := hF.put hO hon
          rw [hput] at hp
          exact hp.congr (fun j _ => (up_set hlt j).symm) (fun _ _ => rfl)
        unfold kindOf at hkn
        split at hkn
        · cases hkn
        · rename_i t p x hop
          unfold execOp at hw2 ⊢
          simp only [hop, Sem.run_bind] at hw2 ⊢
          generalize (Instr.storeAt t (aQ.eval p) (aQ.eval x)).run P w' = r at *
          cases r with
          | ok u w2 =>
            simp only [Result.andThen_ok, Sem.run_pure, Oper.upon, wpList] at hw2 ⊢
            exact fin w2 _ (hput undef) hw2.2
          | halt hh w2 =>
            simp only [Result.andThen] at hw2 ⊢
            cases hh with
            | panic v => simp [Oper.upon] at hw2
            | _ => simp [Oper.upon] at hw2
        · cases hkn
      · refine wpOp_mono (fun a2 w2 hJ2 => ⟨by simp [hJ.1], .inl ⟨fun hu2 => ?_, hJ2⟩⟩) (step_quiet' hM hq' (by simp) hJ' hi ho (hallj i o ho hin).1)
        rcases (up_set hlt n).1 hu2 with hu2 | hu2
        · exact hu hu2
        · exact hin hu2.symm
    · have hin : i ≠ n := fun e => by subst e; exact absurd hu (not_up hun)
      obtain ⟨hk, hpw⟩ := hallj i o ho hin
      have hone : ∀ j, waitsB l.toArray n j = true → up listed j := fun j hw => by
        obtain ⟨o', ho', e, he, hb, hone⟩ := waitsB_spec hw
        rw [← hone]
        exact hJ'.closed n o' ho' hu e he hb
      have hp : pureB o = true := hpw.resolve_left fun h2 => by
        refine absurd ?_ (not_up hun)
        simp only [waits2, Bool.or_eq_true] at h2
        rcases h2 with h2 | h2
        · exact hone i h2
        · obtain ⟨m, _, hm2⟩ := List.any_eq_true.1 h2
          simp only [Bool.and_eq_true] at hm2
          obtain ⟨o', ho', e, he, hb, hon'⟩ := waitsB_spec hm2.2
          rw [← hon']
          exact hJ'.closed m o' ho' (hone m hm2.1) e he hb
      refine wpOp_mono (fun a2 w2 hJ2 => ?_) (step_pure hM hq' (by simp) hJ' hi ho hk hp w')
      obtain ⟨rfl, hJ3⟩ := hJ2
      exact ⟨by simp [hJ.1], .inr ⟨(up_set hlt n).2 (.inl hu), ws, hJ3, hQ⟩⟩
  · simp
  · refine ⟨by simp, .inl ⟨fun hu => ?_, by simp, fun j o _ hu => ?_, Below.refl _ _, valQ l.toArray aQ, fun _ _ _ _ => rfl, (Fr.start a (valQ l.toArray aQ)).congr (fun j hj => ⟨fun h => h.elim, fun hu => ?_⟩) (fun _ h => h.elim), ⟨fun m hm' => absurd hm' (by simp), fun m hm' => absurd hm' (by simp)⟩⟩⟩
    all_goals (unfold up at hu; rw [getD_rep] at hu; cases hu)
end pure
end Go.Proofs.YtmcbaolecmkpdaaDoor
/- What measures does: the measures of a row's nodes, the last one first. -/
namespace Go.Proofs.YtmcbaolecmkpdaaDoor
open Go.RowKit SmWord
set_option maxRecDepth 100000

theorem Tryd.infoM3 : (Tryd.prog.info? 68).map (fun i => (i.zero, i.size, i.bytes)) = some (some (.agg #[.int .u64 0, .int .u64 0, .int .i64 0]), 3, 24) := by kernel_rfl
theorem Tryd.partsM : ∃ i, Tryd.prog.info? 68 = some i ∧ i.zero = some (.agg #[.int .u64 0, .int .u64 0, .int .i64 0]) ∧ i.size = 3 ∧ i.bytes = 24 := info_parts Tryd.infoM3
theorem make_ms (n : Nat) (hn : n ≤ 1000000) (w : World) : ∃ c : Array Value, c.size = 3 * n ∧ (Instr.makeSlice 64 (.int .i64 (n : Int)) (.int .i64 (n : Int))).run Tryd.prog w = .ok (.slice (some ⟨w.heap.size, 0, none⟩) n n) (w.alloc (.cells c 68)) := by
  obtain ⟨i, hi, hz, hs, hb⟩ := Tryd.partsM
  refine ⟨madeCells #[.int .u64 0, .int .u64 0, .int .i64 0] (n * 3), by rw [size_madeCells]; omega, ?_⟩
  have := run_make (P := Tryd.prog) w 64 68 i _ Tryd.underlying64 hi hz .i64 .i64 n n (by omega) (by omega) (by rw [hb]; omega) (by omega)
  rw [hs] at this
  simp only [Int.toNat_natCast] at this
  exact this
/-- Measures among cells. -/
def MsIn (c : Array Value) (off : Nat) (l : List Ms) : Prop := ∀ i x, l[i]? = some x → c[off + 3 * i]? = some (.int .u64 ((x.inn : Nat) : Int)) ∧ c[off + 3 * i + 1]? = some (.int .u64 ((x.who : Nat) : Int)) ∧ c[off + 3 * i + 2]? = some (.int .i64 ((x.dep : Nat) : Int))
theorem MsIn.cons {c : Array Value} {p : Nat} {l : List Ms} (h : MsIn c (3 * (p + 1)) l) (hp : 3 * p + 2 < c.size) (x : Ms) :
    MsIn (((c.setIfInBounds (3 * p) (.int .u64 ((x.inn : Nat) : Int))).setIfInBounds (3 * p + 1) (.int .u64 ((x.who : Nat) : Int))).setIfInBounds (3 * p + 2) (.int .i64 ((x.dep : Nat) : Int))) (3 * p) (x :: l) := by
  intro i y hy
  cases i with
  | zero =>
    cases hy
    simp only [Nat.mul_zero, Nat.add_zero]
    refine ⟨?_, ?_, ?_⟩
    · rw [Array.getElem?_setIfInBounds_ne (by omega), Array.getElem?_setIfInBounds_ne (by omega), Array.getElem?_setIfInBounds_self_of_lt (by omega)]
    · rw [Array.getElem?_setIfInBounds_ne (by omega), Array.getElem?_setIfInBounds_self_of_lt (by simp; omega)]
    · rw [Array.getElem?_setIfInBounds_self_of_lt (by simp; omega)]
  | succ i =>
    have := h i y hy
    rw [show 3 * (p + 1) + 3 * i = 3 * p + 3 * (i + 1) by omega] at this
    refine ⟨?_, ?_, ?_⟩
    · rw [Array.getElem?_setIfInBounds_ne (by omega), Array.getElem?_setIfInBounds_ne (by omega), Array.getElem?_setIfInBounds_ne (by omega)]; exact this.1
    · rw [Array.getElem?_setIfInBounds_ne (by omega), Array.getElem?_setIfInBounds_ne (by omega), Array.getElem?_setIfInBounds_ne (by omega)]; exact this.2.1
    · rw [Array.getElem?_setIfInBounds_ne (by omega), Array.getElem?_setIfInBounds_ne (by omega), Array.getElem?_setIfInBounds_ne (by omega)]; exact this.2.2
theorem MsIn.mem {w : World} {b : Nat} {c : Array Value} {t : TypeId} {off : Nat} {l : List Ms} (h : MsIn c off l) (hb : w.heap[b]? = some (.cells c t)) : MsS w (some ⟨b, off, none⟩) l := fun _ =>
  ⟨b, off, rfl, (Array.getElem?_eq_some_iff.1 hb).1, fun i x hx => ⟨blk_cell hb (h i x hx).1, blk_cell hb (h i x hx).2.1, blk_cell hb (h i x hx).2.2⟩⟩
/-- All of a row that lies behind a place, and the node there, are items: or the row is none. -/
theorem isF_here {x : Nd} {Y : List Nd} {G : Fo} (hY : rows G = Y) : IsF (x :: Y) ↔ (x.ls = false ∧ x.sz = 0) ∨ (x.ls = true ∧ x.by' = [] ∧ ∃ n : Nat, x.sz = (n : Int) ∧ n ≤ Y.length ∧ IsF (Y.take n)) := by
  cases hl : x.ls with
  | false => rw [isF_st _ _ hl]; simp; exact fun _ => ⟨G, hY⟩
  | true =>
    rw [isF_li _ _ hl]
    simp only [Bool.true_eq_false, false_and, false_or, true_and]
    refine and_congr_right fun _ => exists_congr fun n => and_congr_right fun _ => and_congr_right fun hn => ⟨fun h => h.1, fun h => ⟨h, ?_⟩⟩
    obtain ⟨K, hK⟩ := h
    have e : Y = rows K ++ Y.drop n := by rw [hK, List.take_append_drop]
    exact (isF_app ⟨K, rfl⟩).1 (by rw [← e]; exact ⟨G, hY⟩)
/-- The measures that a node more adds. -/
theorem meas_st {x : Nd} {G : Fo} (hl : x.ls = false) (hs : x.sz = 0) : rows (.st x.by' G) = x :: rows G ∧ meas (.st x.by' G) = ⟨x.by'.length, (ws x.by').length, 0⟩ :: meas G := by
  refine ⟨?_, rfl⟩
  cases x
  simp only at hl hs
  subst hl hs
  rfl
theorem meas_li {x : Nd} {Y : List Nd} {G K : Fo} {n : Nat} (hY : rows G = Y) (hl : x.ls = true) (hb : x.by' = []) (hs : x.sz = (n : Int)) (hn : n ≤ Y.length) (hK : rows K = Y.take n) :
    ∃ G', rows G' = x :: Y ∧ meas G' = ⟨(wrs K).length, hz (wrs K).length + (wrs K).length, dps K + 1⟩ :: meas G := by
  have e : Y = rows K ++ Y.drop n := by rw [hK, List.take_append_drop]
  obtain ⟨nx, hnx⟩ : IsF (Y.drop n) := (isF_app ⟨K, rfl⟩).1 (by rw [← e]; exact ⟨G, hY⟩)
  refine ⟨.li K nx, ?_, ?_⟩
  · rw [rows, hnx, ← e]
    cases x
    simp only at hl hb hs
    subst hl hb hs
    rw [hK, List.length_take, Nat.min_eq_left hn]
  · rw [meas, ← meas_app, rows_inj (app K nx) G (by rw [rows_app, hnx, ← e, hY])]
theorem ws_wz (b : List Nat) : (ws b).length = wz b.length (b.getD 0 0) := by
  unfold ws wz
  split
  · rfl
  · rw [List.length_append, hea_hz]
theorem one_iff (x : Nd) (Y : List Nd) : (∃ F, One F ∧ rows F = x :: Y) ↔ x.sz = (Y.length : Int) ∧ IsF (x :: Y) := by
  constructor
  · rintro ⟨F, hF, h⟩
    refine ⟨?_, F, h⟩
    cases F with
    | no => cases hF
    | st b nx =>
      cases (hF : nx = .no)
      simp only [rows, List.cons.injEq] at h
      obtain ⟨rfl, rfl⟩ := h
      rfl
    | li k nx =>
      cases (hF : nx = .no)
      simp only [rows, List.cons.injEq, List.append_nil] at h
      obtain ⟨rfl, rfl⟩ := h
      rfl
  · rintro ⟨hs, F, h⟩
    cases F with
    | no => cases h
    | st b nx =>
      simp only [rows, List.cons.injEq] at h
      obtain ⟨rfl, rfl⟩ := h
      simp only at hs
      have : rows nx = [] := List.length_eq_zero_iff.1 (by omega)
      cases nx with
      | no => exact ⟨.st b .no, rfl, rfl⟩
      | st _ _ => cases this
      | li _ _ => cases this
    | li k nx =>
      simp only [rows, List.cons.injEq] at h
      obtain ⟨rfl, rfl⟩ := h
      simp only [List.length_append] at hs
      have : rows nx = [] := List.length_eq_zero_iff.1 (by omega)
      cases nx with
      | no => exact ⟨.li k .no, rfl, rfl⟩
      | st _ _ => cases this
      | li _ _ => cases this
theorem fit_no {x : Nd} {Y : List Nd} {G : Fo} {L : Nat} (hY : rows G = Y) (hL : Y.length = L) (h : fit x.ls x.by'.length x.sz L = false) : ¬ IsF (x :: Y) := by
  rw [isF_here hY]
  rintro (⟨h1, h2⟩ | ⟨h1, h2, n, h3, h4, _⟩)
  · simp [fit, h1, h2] at h
  · rw [hL] at h4
    simp [fit, h1, h2, h3] at h
    omega
theorem fit_yes {ls : Bool} {nb L : Nat} {sz : Int} (h : fit ls nb sz L = true) : (ls = false ∧ sz = 0) ∨ (ls = true ∧ nb = 0 ∧ ∃ s : Nat, sz = (s : Int) ∧ s ≤ L) := by
  cases ls with
  | false => simp [fit] at h; exact .inl ⟨rfl, h⟩
  | true =>
    simp [fit] at h
    exact .inr ⟨rfl, h.1, sz.toNat, by omega, by omega⟩
/-- How far measures has come: the nodes from place p on are items, and measured; or one is amiss. -/
structure Met (X : List Nd) (p : Nat) (G : Fo) : Prop where
  rest : rows G = X.drop p
  le : p ≤ X.length
theorem Met.not {X : List Nd} {p : Nat} {G : Fo} {x : Nd} (h : Met X (p + 1) G) (hx : X[p]? = some x) (hb : ¬ IsF (x :: X.drop (p + 1))) : ¬ IsF X := by
  rintro ⟨F, rfl⟩
  refine hb ?_
  have : (rows F).drop p = x :: (rows F).drop (p + 1) := by
    obtain ⟨hlt, e⟩ := List.getElem?_eq_some_iff.1 hx
    rw [List.drop_eq_getElem_cons hlt, e]
  rw [← this]
  clear this hx h hb
  induction F generalizing p with
  | no => exact ⟨.no, by simp [rows]⟩
  | st b nx ih =>
    cases p with
    | zero => exact ⟨.st b nx, rfl⟩
    | succ p => exact ih
  | li k nx ihk ih =>
    cases p with
    | zero => exact ⟨.li k nx, rfl⟩
    | succ p =>
      rw [rows, List.drop_succ_cons]
      by_cases hp : p ≤ (rows k).length
      · rw [List.drop_append_of_le_length hp]
        obtain ⟨F', hF'⟩ := ihk (p := p)
        exact ⟨app F' nx, by rw [rows_app, hF']⟩
      · rw [List.drop_append, List.drop_eq_nil_of_le (by omega), List.nil_append]
        exact ih
/-- What is cut off a slice ahead, and behind: where it lies. -/
theorem slice_ahead {P : Program} {t : TypeId} {s : Nat} (ht : P.underlying t = some (.slice (P.elem t))) (hs : ∀ w, (sizeOf (P.elem t)).run P w = .ok s w) (b off : Nat) {n c p : Nat} (hp : p ≤ n) (hc : n ≤ c) :
    ∃ o, (p < n → o = off + p * s) ∧ (p < c → o = off + p * s) ∧ ∀ w, (Instr.sliceAt t (.slice (some ⟨b, off, none⟩) n c) (some (.int .i64 (p : Int))) none none).run P w = .ok (.slice (some ⟨b, o, none⟩) (n - p) (c - p)) w := by
  have hadd : (⟨b, off, none⟩ : Addr).add (p * s) = ⟨b, off + p * s, none⟩ := by unfold Addr.add; split <;> simp_all
  refine ⟨if c = p then off else off + p * s, fun h => if_neg (by omega), fun h => if_neg (by omega), fun w => ?_⟩
  rw [run_sliceAt_slice w _ _ _ _ _ ht, run_slice_l w _ _ _ _ ht .i64 (p : Int) (by omega) (by omega), hs]
  simp only [Result.andThen_ok, sliced, Int.toNat_natCast]
  by_cases h : c = p
  · simp [h]
  · simp [h, hadd]
theorem slice_behind {P : Program} {t : TypeId} {s : Nat} (ht : P.underlying t = some (.slice (P.elem t))) (hs : ∀ w, (sizeOf (P.elem t)).run P w = .ok s w) (b off : Nat) {n c p : Nat} (hp : p ≤ c) (w : World) :
    (Instr.sliceAt t (.slice (some ⟨b, off, none⟩) n c) none (some (.int .i64 (p : Int))) none).run P w = .ok (.slice (some ⟨b, off, none⟩) p c) w := by
  have hadd : (⟨b, off, none⟩ : Addr).add 0 = ⟨b, off, none⟩ := by unfold Addr.add; split <;> simp_all
  rw [run_sliceAt_slice w _ _ _ _ _ ht, run_slice_h w _ _ _ _ ht .i64 (p : Int) (by omega) (by omega), hs]
  simp only [Result.andThen_ok, sliced, Int.toNat_natCast]
  by_cases h : c = 0
  · simp [h]
  · simp [h, hadd]
theorem Tryd.sN (w : World) : (sizeOf (Tryd.prog.elem 56)).run Tryd.prog w = .ok 3 w := by rw [show Tryd.prog.elem 56 = 53 by kernel_rfl, Tryd.sizeOf53]
theorem Tryd.sM (w : World) : (sizeOf (Tryd.prog.elem 64)).run Tryd.prog w = .ok 3 w := by rw [show Tryd.prog.elem 64 = 68 by kernel_rfl, Tryd.sizeOf68]
theorem Tryd.s8 (w : World) : (sizeOf (Tryd.prog.elem 33)).run Tryd.prog w = .ok 1 w := by rw [show Tryd.prog.elem 33 = 5 by kernel_rfl, Tryd.sizeOf5]
end Go.Proofs.YtmcbaolecmkpdaaDoor
/- What measures does: the walk. -/
namespace Go.Proofs.YtmcbaolecmkpdaaDoor
open Go.RowKit SmWord
set_option maxRecDepth 100000

theorem Tryd.infoN1 : (Tryd.prog.info? 53).map (·.size) = some 3 := by kernel_rfl
theorem zN_run (w : World) : (zeroValue 53).run Tryd.prog w = .ok (.agg zN) w := by simp [Tryd.zeroValue53, zN]
set_option maxHeartbeats 4000000 in
theorem measures_core (X : List Nd) (n : Nat) (hl : X.length = n) (hwt : wt X ≤ 1000000) (b off c : Nat) (hnc : n ≤ c) (w : World) (hb : b < w.heap.size) (hN : ∀ i x, X[i]? = some x → NodeAt w b (off + 3 * i) x) (hz : ∀ (i : Nat) (x : Nd), X[i]? = some x → -9223372036854775808 ≤ x.sz ∧ x.sz ≤ 9223372036854775807) (x0 : Nd) (hx0 : X[0]? = some x0)
    (hs0 : x0.sz = (n : Int) - 1) :
    Calls Tryd.prog 38 #[.slice (some ⟨b, off, none⟩) n c] w fun e w' => ((IsF X → ∃ mb cs, e = .returned (.tuple #[.slice (some ⟨mb, 0, none⟩) n n, .bool true]) ∧ w.heap.size ≤ mb ∧ w'.heap[mb]? = some (.cells cs 68) ∧ ∀ F, rows F = X → MsIn cs 0 (meas F)) ∧
      (¬ IsF X → e = .returned (.tuple #[.slice none 0 0, .bool false]))) ∧ Below w.heap.size w w' := by
  have hn6 : n ≤ 1000000 := by have := wt_len X; omega
  have hn1 : 0 < n := by have := (List.getElem?_eq_some_iff.1 hx0).1; omega
  have d0 := (hN 0 x0 hx0).sz
  rw [hs0, Nat.mul_zero, Nat.add_zero] at d0
  have HN := Lib.hid hN
  have HZ := Lib.hid hz
  have HWT := Lib.hid hwt
  clear hN hz hwt
  obtain ⟨cs0, hcs0, hmk⟩ := make_ms n hn6 w
  have hn0 : ((n : Int) == 0) = false := by simp; omega
  go_enter Tryd.func38, Tryd.ntmps38
  go_wp2_with fail
  clear hmk d0
  have f0 : (w.alloc (.cells cs0 68)).heap[w.heap.size]? = some (.cells cs0 68) := heap_alloc_new _ _
  have bW : Below w.heap.size w (w.alloc (.cells cs0 68)) := (Below.refl _ _).alloc (Nat.le_refl _) _
  generalize (w.alloc (.cells cs0 68)) = W at *
  go_loopw [5] (fun i wr => ∃ (p : Nat) (G : Fo) (cs : Array Value), Met X p G ∧ i = .int .i64 ((p : Int) - 1) ∧ Below w.heap.size w wr ∧ wr.heap[w.heap.size]? = some (.cells cs 68) ∧ cs.size = 3 * n ∧ MsIn cs (3 * p) (meas G)) (fun i _ => (intOf i + 1).toNat)
  case atStart => exact ⟨n, .no, cs0, ⟨by simp [rows, ← hl], by omega⟩, rfl, bW, f0, hcs0, fun i x h => by cases h⟩
  case round =>
    obtain ⟨p, G, cs, met, rfl, hbw, h0, hcs, hms⟩ := hrel
    clear f0 bW
    by_cases hp : 0 < p
    · obtain ⟨q, rfl⟩ : ∃ q, p = q + 1 := ⟨p - 1, by omega⟩
      have hqn : q < n := by have := met.le; omega
      obtain ⟨x, hx⟩ : ∃ x, X[q]? = some x := ⟨_, List.getElem?_eq_getElem (by omega)⟩
      have hnode := (HN.out q x hx).below hbw hb
      obtain ⟨d1, ⟨A1, k1, d2, g1, g2, g3, g4⟩, d3⟩ := hnode
      rw [Nat.mul_comm 3 q] at d1 d2 d3
      obtain ⟨z1, z2⟩ := HZ.out q x hx
      have e1 : ((q + 1 : Nat) : Int) - 1 = (q : Int) := by omega
      rw [e1]
      obtain ⟨p1, hp1⟩ : ∃ p1, q + 1 = p1 := ⟨_, rfl⟩
      have e2 : (q : Int) + 1 = (p1 : Int) := by omega
      have HMet := Lib.hid met
      have HX := Lib.hid hx
      have H0 := Lib.hid h0
      have HM := Lib.hid hms
      have HB := Lib.hid hbw
      have HS := Lib.hid g4
      have HG := Lib.hid (And.intro g1 (And.intro g2 g3))
      clear met hx h0 hms hbw g4 g1 g2 g3 e1
      rw [hp1] at HMet HM
      obtain ⟨ls, hls⟩ : ∃ ls, x.ls = ls := ⟨_, rfl⟩
      obtain ⟨nb, hnb⟩ : ∃ nb, x.by'.length = nb := ⟨_, rfl⟩
      obtain ⟨sz, hsz⟩ : ∃ sz, x.sz = sz := ⟨_, rfl⟩
      rw [hls] at d1
      rw [hnb] at d2 HG HS
      rw [hsz] at d3 z1 z2
      have HE := Lib.hid (And.intro hls (And.intro hnb hsz))
      clear hls hnb hsz
      go_wp2_with fail
      obtain ⟨o1, ho1, _, es⟩ := slice_ahead (P := Tryd.prog) (t := 56) (by kernel_rfl) Tryd.sN b off (n := n) (c := c) (p := p1) (by omega) hnc
      refine region_mkA (aQ := ?aQ) 8 ⟨8, 9, 53, 6, 35, zN, #[.bool ls, .slice A1 nb k1, .int .i64 sz]⟩ (by kernel_rfl) (by kernel_rfl) (by kernel_rfl) (fun w1 => ?hq) ?hok ?hh
      case hq =>
        have c1 := fun g => ext2_cell w1 g d1
        have c2 := fun g => ext2_cell w1 g d2
        have c3 := fun g => ext2_cell w1 g d3
        simp only [List.take_succ_cons, List.take_zero, List.drop_succ_cons, List.drop_zero, List.cons_append, List.nil_append]
        repeat (go_big_quiet_step (fail))
        refine wpQuiet_nil ?_
        rfl
      case hok => exact ⟨zN_run, Tryd.infoN1, rfl, by simp [Value.oneCell'], by simp, rfl⟩
      intro bn w2 b2 lbn fn
      simp only [Act.put, List.setIfInBounds_toArray, List.set_cons_succ, List.set_cons_zero]
      have y0 : w2.cell? ⟨bn, 0, none⟩ = some (.bool ls) := blk_cell (j := 0) fn rfl
      have y1 : w2.cell? ⟨bn, 1, none⟩ = some (.slice A1 nb k1) := blk_cell (j := 1) fn rfl
      have y2 : w2.cell? ⟨bn, 2, none⟩ = some (.int .i64 sz) := blk_cell (j := 2) fn rfl
      have FN := Lib.hid fn
      have lbn2 : w.heap.size + 1 ≤ bn := by have := (Array.getElem?_eq_some_iff.1 (H0.out)).1; omega
      replace H0 := Lib.hid (stay b2 H0.out)
      replace HB := Lib.hid (HB.out.trans (b2.mono HB.out.size))
      replace HS := Lib.hid (HS.out.below b2)
      clear fn b2 d1 d2 d3 es lbn
      have hLe : (X.drop p1).length = n - p1 := by rw [List.length_drop, hl]
      have hcp : n - p1 ≤ c - p1 := by omega
      have ho2 : 0 < n - p1 → o1 = off + p1 * 3 := fun h => ho1 (by omega)
      have HO1 := Lib.hid ho2
      clear ho1 ho2
      generalize hL : n - p1 = L at *
      generalize c - p1 = C1 at *
      have KF := Lib.hid fun w => fits_walk ls A1 nb k1 sz L w HG.out.2.1 ⟨z1, z2⟩ (by unfold maxLen; omega)
      generalize hfit : fit ls nb sz L = ft at *
      have HF := Lib.hid hfit
      have HLe := Lib.hid hLe
      clear hfit hLe
      go_wp2_with fail
      refine (KF.out _).mono ?_
      rintro e w3 ⟨rfl, b3⟩
      replace y0 := (b3.cell (p := ⟨bn, 0, none⟩) (Array.getElem?_eq_some_iff.1 FN.out).1).trans y0
      replace y1 := (b3.cell (p := ⟨bn, 1, none⟩) (Array.getElem?_eq_some_iff.1 FN.out).1).trans y1
      replace y2 := (b3.cell (p := ⟨bn, 2, none⟩) (Array.getElem?_eq_some_iff.1 FN.out).1).trans y2
      replace FN := Lib.hid (stay b3 FN.out)
      replace H0 := Lib.hid (stay b3 H0.out)
      replace HB := Lib.hid (HB.out.trans (b3.mono HB.out.size))
      replace HS := Lib.hid (HS.out.below b3)
      clear b3 KF
      cases ft
      · have hno : ¬ IsF X := by
          have hm := HMet.out
          rw [← hp1] at hm
          refine hm.not HX.out (fit_no (L := L) hm.rest (by rw [hp1]; exact HLe.out) ?_)
          rw [HE.out.1, HE.out.2.1, HE.out.2.2]
          exact HF.out
        have HNo := Lib.hid hno
        clear hno
        go_wp2_with fail
        go_ret2
        exact ⟨⟨fun h => absurd h HNo.out, fun _ => rfl⟩, HB.out⟩
      · have hfy := fit_yes HF.out
        have hxw : 9 + x.by'.length ≤ 1000000 := by
          have h1 := HWT.out
          obtain ⟨hlt, e⟩ := List.getElem?_eq_some_iff.1 HX.out
          have h2 := wt_drop X q
          rw [List.drop_eq_getElem_cons hlt, e, wt_cons] at h2
          omega
        rw [HE.out.2.1] at hxw
        have hq3 : q * 3 + 2 < cs.size := by omega
        obtain ⟨v0, hv0⟩ : ∃ v, cs[q * 3]? = some v := ⟨_, Array.getElem?_eq_getElem (by omega)⟩
        obtain ⟨v1, hv1⟩ : ∃ v, cs[q * 3 + 1]? = some v := ⟨_, Array.getElem?_eq_getElem (by omega)⟩
        obtain ⟨v2, hv2⟩ : ∃ v, cs[q * 3 + 2]? = some v := ⟨_, Array.getElem?_eq_getElem (by omega)⟩
        rcases hfy with ⟨rfl, hz0⟩ | ⟨rfl, hnb0, s, hs, hsL⟩
        · have KB := mbytes_walk A1 nb k1 (fun i => x.by'.getD i 0) w3 (by omega) HS.out
          have hww : wz nb (x.by'.getD 0 0) = (ws x.by').length := by rw [ws_wz, HE.out.2.1]
          rw [hww] at KB
          obtain ⟨wn, hwn⟩ : ∃ wn, (ws x.by').length = wn := ⟨_, rfl⟩
          rw [hwn] at KB
          have HWN := Lib.hid hwn
          clear hww hwn
          go_wp2_with fail
          refine KB.mono ?_
          rintro e w4 ⟨rfl, b4⟩
          have m4 := stay b4 H0.out
          have c0 := blk_cell m4 hv0
          have c1 := blk_cell m4 hv1
          have c2 := blk_cell m4 hv2
          have f0 := blk_frozen (j := q * 3) m4
          have f1 := blk_frozen (j := q * 3 + 1) m4
          have f2 := blk_frozen (j := q * 3 + 2) m4
          have M4 := Lib.hid m4
          have B4 := Lib.hid (HB.out.trans (b4.mono HB.out.size))
          clear m4 b4
          go_wp2_with fail
          have hm := HMet.out
          have hM := HM.out
          rw [← hp1] at hm hM
          obtain ⟨r1, r2⟩ := meas_st (x := x) (G := G) HE.out.1 (by rw [HE.out.2.2, hz0])
          have hdr : X.drop q = x :: X.drop (q + 1) := by
            obtain ⟨hlt, e⟩ := List.getElem?_eq_some_iff.1 HX.out
            rw [List.drop_eq_getElem_cons hlt, e]
          refine ⟨⟨q, .st x.by' G, _, ⟨by rw [r1, hm.rest, hdr], by omega⟩, rfl, ((B4.out.setCell (Nat.le_refl _) _).setCell (Nat.le_refl _) _).setCell (Nat.le_refl _) _, blk_set (blk_set (blk_set M4.out _) _) _, by simp [hcs], ?_⟩, by simp [intOf]⟩
          have := hM.cons (p := q) (by omega) ⟨nb, wn, 0⟩
          rw [r2, HE.out.2.1, HWN.out]
          rw [Nat.mul_comm 3 q] at this ⊢
          exact this
        · obtain ⟨iv, wv, dv, okv, KL, hok1, hok2⟩ : ∃ (iv wv dv : Nat) (okv : Bool), (∀ (M : Option Addr) (mc : Nat) (w : World) (_ : NodesS w (some ⟨b, o1, none⟩) (X.drop p1)) (_ : MsS w M (meas G)), Calls Tryd.prog 51 #[.slice (some ⟨b, o1, none⟩) s C1, .slice M L mc] w fun e w' => e = .returned (.tuple #[.agg #[.int .u64 (iv : Int), .int .u64 (wv : Int), .int .i64 (dv : Int)], .bool okv]) ∧ Below w.heap.size w w') ∧
              (okv = true ↔ IsF ((X.drop p1).take s)) ∧ (okv = true → ∃ K, rows K = (X.drop p1).take s ∧ iv = (wrs K).length ∧ wv = hz (wrs K).length + (wrs K).length ∧ dv = dps K + 1) := by
            have KL := fun (M : Option Addr) (mc : Nat) (w : World) (hN : NodesS w (some ⟨b, o1, none⟩) (X.drop p1)) (hM : MsS w M (meas G)) => mlist_walk (X.drop p1) G HMet.out.rest s (by rw [HLe.out]; exact hsL) (Nat.le_trans (wt_drop X p1) HWT.out) (some ⟨b, o1, none⟩) C1 M mc w hN hM
            rw [HLe.out] at KL
            have hpu := hop_pure HMet.out.rest (show s ≤ (X.drop p1).length by rw [HLe.out]; exact hsL)
            refine ⟨_, _, _, _, fun M mc w hN hM => (KL M mc w hN hM).mono fun e w' h => ⟨h.1.1, h.2⟩, ?_, fun h => ⟨_, hpu.2 (decide_eq_true_iff.1 h), rfl, rfl, rfl⟩⟩
            rw [decide_eq_true_iff]
            exact hpu.1
          replace KL := Lib.hid KL
          have HOK := Lib.hid (And.intro hok1 hok2)
          clear hok1 hok2
          obtain ⟨mo, hmo1, _, em⟩ := slice_ahead (P := Tryd.prog) (t := 64) (by kernel_rfl) Tryd.sM w.heap.size 0 (n := n) (c := n) (p := p1) (by omega) (Nat.le_refl _)
          rw [hL] at em
          have en := fun w => slice_behind (P := Tryd.prog) (t := 56) (by kernel_rfl) Tryd.sN b o1 (n := L) (c := C1) (p := s) (by omega) w
          subst hs
          obtain ⟨hXd, hGd⟩ : True ∧ True := ⟨trivial, trivial⟩
          have hNw : ∀ w', Below w.heap.size w w' → NodesS w' (some ⟨b, o1, none⟩) (X.drop p1) := fun w' hb' => ⟨fun h0 => ⟨b, o1, rfl, Nat.lt_of_lt_of_le hb hb'.size, fun i y hy => by
            rw [HLe.out] at h0
            have hy' : X[p1 + i]? = some y := by rw [← List.getElem?_drop]; exact hy
            have := (HN.out (p1 + i) y hy').below (hb'.mono (Nat.le_refl _)) hb
            rwa [show off + 3 * (p1 + i) = o1 + 3 * i by rw [HO1.out h0]; omega] at this⟩⟩
          have hMw : ∀ w' : World, w'.heap[w.heap.size]? = some (.cells cs 68) → MsS w' (some ⟨w.heap.size, mo, none⟩) (meas G) := fun w' hm' h0 => by
            rw [meas_length, HMet.out.rest, HLe.out] at h0
            refine ⟨w.heap.size, mo, rfl, (Array.getElem?_eq_some_iff.1 hm').1, fun i y hy => ?_⟩
            have := (HM.out.mem hm') (by rw [meas_length, HMet.out.rest, HLe.out]; exact h0)
            obtain ⟨b', o', e, _, hc⟩ := this
            cases e
            have h3 := hc i y hy
            rwa [show 3 * p1 = mo by rw [hmo1 (by omega)]; omega] at h3
          have HNW := Lib.hid hNw
          have HMW := Lib.hid hMw
          clear hNw hMw hXd hGd
          go_wp2_with fail
          refine region_lastA (aQ := ?aQ7) 15 (by kernel_rfl) (by kernel_rfl) (fun w1 => ?hq7) (fun w7 hb7 => ?hh7)
          case hq7 =>
            have c1 := fun g => ext2_cell w1 g y2
            have hBw : ∀ g : Ext w1.on, Below w.heap.size w g.on := fun g => (HB.out.trans (Below.refl _ _).drew).trans ((w1.below.mono HB.out.size).trans (g.below.mono (Nat.le_trans HB.out.size w1.below.size)))
            have hmw : ∀ g : Ext w1.on, g.on.heap[w.heap.size]? = some (.cells cs 68) := fun g => g.block (w1.block H0.out)
            simp only [List.take_succ_cons, List.take_zero, List.drop_succ_cons, List.drop_zero, List.cons_append, List.nil_append]
            repeat (go_big_quiet_step ((go_at_call 51; exact calls_ext (KL.out _ _ _ (HNW.out _ (hBw _)) (HMW.out _ (hmw _))))))
            refine wpQuiet_nil ?_
            rfl
          have m4 := stay hb7 H0.out
          have c0 := blk_cell m4 hv0
          have c1 := blk_cell m4 hv1
          have c2 := blk_cell m4 hv2
          have f0 := blk_frozen (j := q * 3) m4
          have f1 := blk_frozen (j := q * 3 + 1) m4
          have f2 := blk_frozen (j := q * 3 + 2) m4
          have M4 := Lib.hid m4
          have B4 := Lib.hid (HB.out.trans (hb7.mono HB.out.size))
          clear m4 hb7
          simp only [List.take_succ_cons, List.take_zero, List.drop_succ_cons, List.drop_zero]
          have hdr : X.drop q = x :: X.drop p1 := by
            obtain ⟨hlt, e⟩ := List.getElem?_eq_some_iff.1 HX.out
            rw [List.drop_eq_getElem_cons hlt, e, hp1]
          cases okv
          · have hno : ¬ IsF X := by
              have hm := HMet.out
              rw [← hp1] at hm
              refine hm.not HX.out ?_
              rw [isF_here hm.rest, hp1]
              rintro (⟨h1, _⟩ | ⟨_, _, s', h3, _, h5⟩)
              · rw [HE.out.1] at h1; cases h1
              · rw [HE.out.2.2] at h3
                have e : s' = s := by omega
                rw [e] at h5
                exact absurd (HOK.out.1.2 h5) (by decide)
            have HNo := Lib.hid hno
            clear hno
            go_wp2_with fail
            go_ret2
            exact ⟨⟨fun h => absurd h HNo.out, fun _ => rfl⟩, ((B4.out.setCell (Nat.le_refl _) _).setCell (Nat.le_refl _) _).setCell (Nat.le_refl _) _⟩
          · obtain ⟨K, hK, hi1, hi2, hi3⟩ := HOK.out.2 rfl
            have hm := HMet.out
            obtain ⟨G', hG1, hG2⟩ := meas_li (x := x) hm.rest HE.out.1 (List.length_eq_zero_iff.1 (by rw [HE.out.2.1]; exact hnb0)) HE.out.2.2 (by rw [HLe.out]; exact hsL) hK
            have HG' := Lib.hid (And.intro hG1 hG2)
            have HDR := Lib.hid hdr
            have HI := Lib.hid (And.intro hi1 (And.intro hi2 hi3))
            clear hG1 hG2 hdr hi1 hi2 hi3 hm hK
            go_wp2_with fail
            refine ⟨⟨q, G', _, ⟨by rw [HG'.out.1, HDR.out], by omega⟩, rfl, ((B4.out.setCell (Nat.le_refl _) _).setCell (Nat.le_refl _) _).setCell (Nat.le_refl _) _, blk_set (blk_set (blk_set M4.out _) _) _, by simp [hcs], ?_⟩, by simp [intOf]⟩
            have hM := HM.out
            rw [← hp1] at hM
            have := hM.cons (p := q) (by omega) ⟨iv, wv, dv⟩
            rw [HG'.out.2, ← HI.out.2.1, ← HI.out.1, ← HI.out.2.2]
            rw [Nat.mul_comm 3 q] at this ⊢
            exact this
    · obtain rfl : p = 0 := by omega
      have HF : Hid (rows G = X) := Lib.hid (by have := met.rest; simpa using this)
      have HM := Lib.hid hms
      have HB := Lib.hid hbw
      have H0 := Lib.hid h0
      clear met hms hbw h0
      go_wp2_with fail
      go_ret2
      refine ⟨⟨fun _ => ⟨w.heap.size, cs, rfl, Nat.le_refl _, H0.out, fun F hF => ?_⟩, fun h => absurd ⟨G, HF.out⟩ h⟩, HB.out⟩
      rw [rows_inj F G (by rw [hF, HF.out])]
      exact HM.out
theorem measures_bad (X : List Nd) (A : Option Addr) (n c : Nat) (hl : X.length = n) (w : World) (hn : n ≤ 1000000) (hN : NodesS w A X) (hbad : n = 0 ∨ ∃ x0, X[0]? = some x0 ∧ x0.sz ≠ (n : Int) - 1) :
    Calls Tryd.prog 38 #[.slice A n c] w fun e w' => e = .returned (.tuple #[.slice none 0 0, .bool false]) ∧ w' = w := by
  rcases hbad with rfl | ⟨x0, hx, hs⟩
  · clear hN
    go_enter Tryd.func38, Tryd.ntmps38
    go_wp2_with fail
    go_ret2
    exact ⟨rfl, rfl⟩
  · have h0 : 0 < n := by have := (List.getElem?_eq_some_iff.1 hx).1; omega
    obtain ⟨b, off, rfl, hb, hc⟩ := hN.cells (by omega)
    have d0 := (hc 0 x0 hx).sz
    rw [Nat.mul_zero, Nat.add_zero] at d0
    obtain ⟨z, hz⟩ : ∃ z, x0.sz = z := ⟨_, rfl⟩
    rw [hz] at d0 hs
    have hn0 : ((n : Int) == 0) = false := by simp; omega
    have hz1 : (z != (n : Int) - 1) = true := by rw [bne_iff_ne]; exact hs
    clear hs hz hc hN hx hl
    go_enter Tryd.func38, Tryd.ntmps38
    go_wp2_with fail
    go_ret2
    exact ⟨rfl, rfl⟩
end Go.Proofs.YtmcbaolecmkpdaaDoor
/- What Encode of package rlp does. -/
namespace Go.Proofs.YtmcbaolecmkpdaaDoor
open Go.RowKit SmWord
set_option maxRecDepth 100000

/-- What is written of a node by itself. -/
def pc (x : Nd) (m : Ms) : List Nat := (if x.by'.length = 1 ∧ x.by'.getD 0 0 < 128 then [] else hea m.inn (if x.ls then 64 else 0)) ++ x.by'
def pcs (F : Fo) : List (List Nat) := List.zipWith pc (rows F) (meas F)
theorem pcs_all : ∀ F, (pcs F).flatten = wrs F
  | .no => rfl
  | .st b nx => by
    have h := pcs_all nx
    unfold pcs at h
    rw [pcs, rows, meas, List.zipWith_cons_cons, List.flatten_cons, h, wrs]
    congr 1
    unfold pc ws
    simp only
    split <;> rfl
  | .li k nx => by
    have h1 := pcs_all k
    have h2 := pcs_all nx
    unfold pcs at h1 h2
    rw [pcs, rows, meas, List.zipWith_cons_cons, List.zipWith_append (meas_length k).symm, List.flatten_cons, List.flatten_append, h1, h2, wrs]
    simp [pc]
theorem pcs_len (F : Fo) : (pcs F).length = (rows F).length := by simp [pcs, meas_length]
theorem pcs_get {F : Fo} {i : Nat} {x : Nd} (hx : (rows F)[i]? = some x) : ∃ m, (meas F)[i]? = some m ∧ (pcs F)[i]? = some (pc x m) := by
  have hlt := (List.getElem?_eq_some_iff.1 hx).1
  have hm : i < (meas F).length := by rw [meas_length]; exact hlt
  refine ⟨(meas F)[i], List.getElem?_eq_getElem hm, ?_⟩
  rw [pcs, List.getElem?_zipWith, hx, List.getElem?_eq_getElem hm]
/-- What is written of the first i nodes. -/
def wri (F : Fo) (i : Nat) : List Nat := ((pcs F).take i).flatten
theorem wri_step {F : Fo} {i : Nat} {x : Nd} {m : Ms} (h : (pcs F)[i]? = some (pc x m)) : wri F (i + 1) = wri F i ++ pc x m := by
  obtain ⟨hlt, e⟩ := List.getElem?_eq_some_iff.1 h
  rw [wri, List.take_add_one, List.getElem?_eq_getElem hlt, e, List.flatten_append]
  simp [wri]
theorem wri_end (F : Fo) : wri F (rows F).length = wrs F := by rw [wri, ← pcs_len, List.take_length, pcs_all]
theorem wri_le (F : Fo) (i : Nat) : (wri F i).length ≤ (wrs F).length := by
  have : wrs F = wri F i ++ ((pcs F).drop i).flatten := by rw [← pcs_all, wri, ← List.flatten_append, List.take_append_drop]
  rw [this, List.length_append]
  omega
theorem meas_inn (F : Fo) : ∀ (i : Nat) (x : Nd) (m : Ms), (rows F)[i]? = some x → (meas F)[i]? = some m → m.inn ≤ wt (rows F) + (wrs F).length := by
  induction F with
  | no => intro i x m h; simp [rows] at h
  | st b nx ih =>
    intro i x m h1 h2
    cases i with
    | zero =>
      simp only [rows, meas, List.getElem?_cons_zero, Option.some.injEq] at h1 h2
      subst h1 h2
      rw [rows, wt_cons]
      simp only
      omega
    | succ i =>
      have := ih i x m (by simpa [rows] using h1) (by simpa [meas] using h2)
      rw [rows, wt_cons, wrs, List.length_append]
      omega
  | li k nx ihk ih =>
    intro i x m h1 h2
    cases i with
    | zero =>
      simp only [meas, List.getElem?_cons_zero, Option.some.injEq] at h2
      subst h2
      simp only
      rw [wrs, List.length_append, List.length_append]
      omega
    | succ i =>
      simp only [rows, meas, List.getElem?_cons_succ] at h1 h2
      rw [rows, wt_cons, wt_app, wrs, List.length_append, List.length_append]
      by_cases hi : i < (rows k).length
      · rw [List.getElem?_append_left hi] at h1
        rw [List.getElem?_append_left (by rw [meas_length]; exact hi)] at h2
        have := ihk i x m h1 h2
        omega
      · rw [List.getElem?_append_right (by omega)] at h1
        rw [List.getElem?_append_right (by rw [meas_length]; omega), meas_length] at h2
        have := ih _ x m h1 h2
        omega
theorem make_b8 (n : Nat) (hn : n ≤ 1000000) (w : World) : ∃ c : Array Value, c.size = n ∧ (Instr.makeSlice 33 (.int .i64 0) (.int .u64 (n : Int))).run Tryd.prog w = .ok (.slice (some ⟨w.heap.size, 0, none⟩) 0 n) (w.alloc (.cells c 5)) := by
  obtain ⟨i, hi, hz, hs, hb⟩ := Tryd.parts8
  refine ⟨madeCells #[.int .u8 0] (n * 1), by rw [size_madeCells]; omega, ?_⟩
  have := run_make (P := Tryd.prog) w 33 5 i _ Tryd.underlying33 hi hz .i64 .u64 0 n (by omega) (by omega) (by rw [hb]; omega) (by omega)
  rw [hs] at this
  simp only [Int.toNat_natCast] at this
  exact this
end Go.Proofs.YtmcbaolecmkpdaaDoor
