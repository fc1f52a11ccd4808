/- The law for a region whose last operation is a store into a variable that lay before, where some of what comes before it is waited for by another operation that the store waits for. -/
import Derived.Test.YtfpeliolngfkpaaMk
namespace Go.Proofs.Ytfpeliolngfkpaa
open Go.RowKit
set_option maxRecDepth 100000

section
variable {P : Program} {Q : Exit → Act → World → Prop} {a : Act} {w : World} {l : List Oper} {aQ : Act}

/-- Operation n waits for operation j, or for one that does. -/
def waits2 (l : Array Oper) (n j : Nat) : Bool := waitsB l n j || (List.range n).any fun m => waitsB l n m && waitsB l m j
theorem region_last2 {id : Nat} (n : Nat) (hm : P.follows .mixedOrders = true)
    (hB : (makeB l.toArray && fwdB l.toArray && decide (l.toArray.size = n + 1) && ((List.range n).all fun j => waits2 l.toArray n j && (match l.toArray[j]? with | some o => kindOf o == 0 | none => false)) && (match l.toArray[n]? with | some o => kindOf o == 2 | none => false)) = true)
    (hq : ∀ w1 : Ext w.drew, wpQuiet P l.toArray (fun w' => ∃ g : Ext w1.on, w' = g.on) (fun a' => a' = aQ) (l.take n) a)
    (h : ∀ w' : World, Below w.heap.size w w' → wpList P l.toArray Q (l.drop n) aQ w') : (Code.region id l.toArray true).wp P Q a w := by
  simp only [Bool.and_eq_true, decide_eq_true_eq] at hB
  obtain ⟨⟨⟨⟨hM, hfwd⟩, hsz⟩, hall⟩, hlast⟩ := hB
  have hallj : ∀ j, j < n → waits2 l.toArray n j = true ∧ ∃ o, l.toArray[j]? = some o ∧ kindOf o = 0 := fun j hj => by
    have := List.all_eq_true.1 hall j (List.mem_range.2 hj)
    simp only [Bool.and_eq_true] at this
    refine ⟨this.1, ?_⟩
    have h2 := this.2
    split at h2
    · rename_i o ho; exact ⟨o, ho, by simpa using h2⟩
    · cases h2
  obtain ⟨on, hon, hkn⟩ : ∃ o, l.toArray[n]? = some o ∧ kindOf o = 2 := by
    split at hlast
    · rename_i o ho; exact ⟨o, ho, by simpa using hlast⟩
    · cases hlast
  have hlen : l.length = n + 1 := by simpa using hsz
  have hqL : quietL l.toArray 0 = l.take n := by
    unfold quietL
    rw [List.drop_zero]
    refine filter_take l n fun i o ho => ?_
    by_cases hi : i < n
    · obtain ⟨_, o', ho', hk⟩ := hallj i hi
      have : o' = o := by
        have h1 : l.toArray[i]? = some o := by simpa using ho
        rw [ho'] at h1; exact Option.some.inj h1
      subst this
      simp [hi, hk]
    · have hin : i = n := by have := (List.getElem?_eq_some_iff.1 ho).1; omega
      subst hin
      have : on = o := by
        have h1 : l.toArray[i]? = some o := by simpa using ho
        rw [hon] at h1; exact Option.some.inj h1
      subst this
      simp [hkn]
  have hq' : ∀ w1 : Ext w.drew, wpQuiet P l.toArray (cls w1.on) (fun a' => a' = aQ) (quietL l.toArray 0) a := fun w1 => by rw [hqL]; exact hq w1
  have hdrop : l.drop n = [on] := by
    have hlt : n < l.length := by omega
    rw [List.drop_eq_getElem_cons hlt, List.drop_eq_nil_of_le (by omega)]
    have : l[n] = on := by
      have h1 : l.toArray[n]? = some l[n] := by simp [hlt]
      rw [hon] at h1; exact (Option.some.inj h1).symm
    rw [this]
  refine wp_region_any hm ?_
  refine wpAny_inv (J := fun listed a' w' => listed.size = l.toArray.size ∧ ((¬ up listed n ∧ J l.toArray w.drew a aQ [] listed a' w') ∨ ((∀ i, i < l.toArray.size → up listed i) ∧ Q .normal a' w'))) (fun listed a' w' hJ hal => ?_) (fun _ _ _ hJ => hJ.1) (fun listed a' w' hJ hr => ?_) (fun listed a' w' i o hJ hi ho => ?_) _ _ _ _ ?_ ?_
  · rcases hJ.2 with ⟨hn, _⟩ | ⟨_, hQ⟩
    · exact absurd (hal n (by rw [hsz]; omega)) hn
    · exact hQ
  · rcases hJ.2 with ⟨_, hJ'⟩ | ⟨hal, _⟩
    · intro i
      induction i using Nat.strongRecOn with
      | _ i ih =>
        intro hi
        apply Classical.byContradiction
        intro hn
        have hin : i ∈ Region.ready .any l.toArray listed := by
          refine mem_ready.2 ⟨?_, l.toArray[i], Array.getElem?_eq_getElem hi, fun e he hb => ih e.on (fwdB_spec hfwd (Array.getElem?_eq_getElem hi) he hb) (Nat.lt_trans (fwdB_spec hfwd (Array.getElem?_eq_getElem hi) he hb) hi)⟩
          have hl : i < listed.size := by rw [hJ'.size]; exact hi
          simp [hl] at hn ⊢
          exact hn
        rw [hr] at hin
        cases hin
    · exact hal
  · obtain ⟨hun, _⟩ := mem_ready' hi
    have hilt : i < l.toArray.size := (Array.getElem?_eq_some_iff.1 ho).1
    have hlt : i < listed.size := by rw [hJ.1]; exact hilt
    rcases hJ.2 with ⟨hn, hJ'⟩ | ⟨hal, _⟩
    · by_cases hin : i = n
      · subst hin
        rw [hon] at ho; cases ho
        have hone : ∀ j, waitsB l.toArray i j = true → up listed j := fun j hw => by
          obtain ⟨o', ho', e, he, hb, hone⟩ := waitsB_spec hw
          obtain ⟨_, o2, ho2, hal2⟩ := mem_ready' hi
          rw [ho'] at ho2; cases ho2
          rw [← hone]; exact hal2 e he hb
        have hups : ∀ j, j < i → up listed j := fun j hj => by
          have h2 := (hallj j hj).1
          simp only [waits2, Bool.or_eq_true] at h2
          rcases h2 with h2 | h2
          · exact hone j h2
          · obtain ⟨m, _, hm2⟩ := List.any_eq_true.1 h2
            simp only [Bool.and_eq_true] at hm2
            obtain ⟨o', ho', e, he, hb, hon'⟩ := waitsB_spec hm2.2
            rw [← hon']
            exact hJ'.closed m o' ho' (hone m hm2.1) e he hb
        obtain ⟨V, hV, hF, _⟩ := hJ'.rest
        have hFQ : Fr l.toArray a (fun j => ∃ o, l.toArray[j]? = some o ∧ kindOf o = 0) V aQ := (aQ_fr hM (hq' ⟨w.drew, Below.refl _ _⟩)).congr (fun _ _ => Iff.rfl) (fun j hj => by obtain ⟨o', ho', hz⟩ := hj; exact (hV j o' ho' hz).symm)
        have ea : a' = aQ := hF.ext (hFQ.congr (fun j hj => ⟨fun hx => by
            obtain ⟨o', ho', hz⟩ := hx
            by_cases hji : j < i
            · exact hups j hji
            · have : j = i := by omega
              subst this
              rw [hon] at ho'; cases ho'; omega, fun hu => by
            by_cases hji : j < i
            · exact (hallj j hji).2
            · have : j = i := by omega
              subst this
              exact absurd hu hn⟩) (fun _ _ => rfl))
        subst ea
        have hb0 := hJ'.below
        have hw := h w' ⟨hb0.os, hb0.tape, hb0.output, hb0.size, hb0.block⟩
        rw [hdrop] at hw
        have hwop : wpOp P l.toArray Q i (fun a w => Q .normal a w) a' w' := by
          unfold wpOp
          simp only [hon]
          unfold wpList at hw
          exact hw
        refine wpOp_mono (fun a2 w2 hQ => ⟨by simp [hJ.1], .inr ⟨fun j hj => (up_set hlt j).2 ?_, hQ⟩⟩) hwop
        by_cases hji : j < i
        · exact .inl (hups j hji)
        · exact .inr (by omega)
      · have hi' : i < n := by omega
        obtain ⟨_, o', ho', hk⟩ := hallj i hi'
        rw [ho] at ho'; cases ho'
        refine wpOp_mono (fun a2 w2 hJ2 => ⟨by simp [hJ.1], .inl ⟨fun hu => ?_, hJ2⟩⟩) (step_quiet' hM hq' (by simp) hJ' hi ho hk)
        rcases (up_set hlt n).1 hu with hu | hu
        · exact hn hu
        · exact hin hu.symm
    · exact absurd (hal i hilt) (not_up hun)
  · simp
  · refine ⟨by simp, .inl ⟨fun hu => ?_, by simp, fun j o _ hu => ?_, Below.refl _ _, valQ l.toArray aQ, fun _ _ _ _ => rfl, (Fr.start a (valQ l.toArray aQ)).congr (fun j hj => ⟨fun h => h.elim, fun hu => ?_⟩) (fun _ h => h.elim), ⟨fun m hm' => absurd hm' (by simp), fun m hm' => absurd hm' (by simp)⟩⟩⟩
    all_goals (unfold up at hu; rw [getD_rep] at hu; cases hu)
end
end Go.Proofs.Ytfpeliolngfkpaa
