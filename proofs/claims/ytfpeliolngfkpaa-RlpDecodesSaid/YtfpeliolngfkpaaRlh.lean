/- What item of package rlp does: plain words; the cuts of the bytes; the reader in memory. -/
import Derived.Test.YtfpeliolngfkpaaRlg
namespace Go.Proofs.Ytfpeliolngfkpaa
open Go.RowKit SmWord
set_option maxRecDepth 100000

theorem slice_mid {P : Program} {t : TypeId} {s : Nat} (ht : P.underlying t = some (.slice (P.elem t))) (hs : ∀ w, (sizeOf (P.elem t)).run P w = .ok s w) (b off : Nat) {n c p q : Nat} (hp : p ≤ q) (hq : q ≤ n) (hc : n ≤ c) :
    ∃ o, (p < q → o = off + p * s) ∧ ∀ w, (Instr.sliceAt t (.slice (some ⟨b, off, none⟩) n c) (some (.int .i64 (p : Int))) (some (.int .i64 (q : Int))) none).run P w = .ok (.slice (some ⟨b, o, none⟩) (q - p) (c - p)) w := by
  have hadd : (⟨b, off, none⟩ : Addr).add (p * s) = ⟨b, off + p * s, none⟩ := by unfold Addr.add; split <;> simp_all
  refine ⟨if c = p then off else off + p * s, fun h => if_neg (by omega), fun w => ?_⟩
  rw [run_sliceAt_slice w _ _ _ _ _ ht, run_slice_lh w _ _ _ _ ht .i64 .i64 (p : Int) (q : Int) (by omega) (by omega) (by omega), hs]
  simp only [Result.andThen_ok, sliced, Int.toNat_natCast]
  by_cases h : c = p
  · simp [h]
  · simp [h, hadd]
theorem Sl.of_get {w : World} {b off n : Nat} {R : List Nat} {c : Nat} (ha : ArgB w (some ⟨b, off, none⟩) n c R) {o p m : Nat} (ho : 0 < m → o = off + p) (hm : p + m ≤ n) : Sl w (some ⟨b, o, none⟩) m (fun i => ((R.drop p).take m).getD i 0) := by
  have hg : ∀ i, i < m → ((R.drop p).take m).getD i 0 = R.getD (p + i) 0 := fun i hi => by
    rw [List.getD, List.getElem?_take_of_lt hi, List.getElem?_drop, List.getD]
  refine ⟨fun i hi => ?_, fun h0 => ?_⟩
  · rw [hg i hi]
    exact ha.cells.small _ (by omega)
  · obtain ⟨b', o', e, hb, hc⟩ := ha.cells.cells (by omega)
    cases e
    refine ⟨b, o, rfl, hb, fun i hi => ?_⟩
    rw [hg i hi, ho h0, Nat.add_assoc]
    exact hc (p + i) (by omega)
theorem cut_ahead {w : World} {A : Option Addr} {n c : Nat} {R : List Nat} (ha : ArgB w A n c R) {p : Nat} (hp : p ≤ n) :
    ∃ A', ArgB w A' (n - p) (c - p) (R.drop p) ∧ ∀ w' : World, (Instr.sliceAt 25 (.slice A n c) (some (.int .i64 (p : Int))) none none).run Try.prog w' = .ok (.slice A' (n - p) (c - p)) w' := by
  cases A with
  | none =>
    obtain ⟨rfl, rfl⟩ := ha.nil rfl
    obtain rfl : p = 0 := by omega
    refine ⟨none, ?_, fun w' => ?_⟩
    · rw [List.drop_zero]; exact ha
    · rw [run_sliceAt_slice w' _ _ _ _ _ (by kernel_rfl), run_slice_l w' _ _ _ _ (by kernel_rfl) .i64 _ (by omega) (by omega), Try.s8]
      simp [sliced]
  | some ad =>
    by_cases h0 : 0 < n
    · obtain ⟨b, off, e, hb, hc⟩ := ha.cells.cells h0
      cases e
      obtain ⟨o, ho1, ho2, es⟩ := slice_ahead (P := Try.prog) (t := 25) (by kernel_rfl) Try.s8 b off (n := n) (c := c) (p := p) hp ha.cap
      refine ⟨some ⟨b, o, none⟩, ⟨by rw [List.length_drop, ha.len], by have := ha.cap; omega, (fun h => by cases h), ?_⟩, es⟩
      have := Sl.of_get ha (o := o) (p := p) (m := n - p) (fun h => by rw [ho1 (by omega), Nat.mul_one]) (by omega)
      rwa [List.take_of_length_le (by rw [List.length_drop, ha.len]; exact Nat.le_refl _)] at this
    · obtain rfl : n = 0 := by omega
      obtain rfl : p = 0 := by omega
      have hadd : ad.add 0 = ad := by unfold Addr.add; split <;> simp_all
      refine ⟨some ad, ?_, fun w' => ?_⟩
      · rw [List.drop_zero]; exact ha
      · rw [run_sliceAt_slice w' _ _ _ _ _ (by kernel_rfl), run_slice_l w' _ _ _ _ (by kernel_rfl) .i64 _ (by omega) (by omega), Try.s8]
        simp [sliced, hadd]
theorem hdc_bad : ∀ {R : List Nat} {k : Nat}, hdc R = .bad k → k = 2 ∨ k = 3
  | [], k, h => by cases h; exact .inr rfl
  | c :: T, k, h => by
    unfold hdc at h
    simp only at h
    split at h
    · cases h
    · split at h
      · rename_i e he
        cases h
        unfold hdp at he
        simp only at he
        split at he
        · split at he
          · cases he
          · split at he
            · cases he; exact .inr rfl
            · split at he
              · cases he; exact .inl rfl
              · split at he
                · cases he; exact .inl rfl
                · cases he
        · split at he
          · cases he
          · split at he
            · cases he; exact .inr rfl
            · split at he
              · cases he; exact .inl rfl
              · split at he
                · cases he; exact .inl rfl
                · cases he
      · split at h
        · cases h; exact .inr rfl
        · cases h
/-- What the head says fits into what is left. -/
theorem hdc_fits {R : List Nat} {ls : Bool} {u m : Nat} (h : hdc R = .got ls u m) : u + m ≤ R.length ∧ 0 < u + m ∧ (u = 0 → ls = false ∧ m = 1 ∧ R.getD 0 0 < 128) := by
  cases R with
  | nil => cases h
  | cons c T =>
    unfold hdc at h
    simp only at h
    split at h
    · cases h
      exact ⟨by simp, by omega, fun _ => ⟨rfl, rfl, by simpa⟩⟩
    · split at h
      · cases h
      · rename_i ls' u' m' he
        split at h
        · cases h
        · rename_i h2
          cases h
          have hu : 0 < u ∧ u ≤ T.length + 1 := by
            unfold hdp at he
            simp only at he
            repeat' split at he
            all_goals first | (cases he; omega) | cases he
          exact ⟨by simp only [List.length_cons] at h2 ⊢; omega, by omega, fun e => by omega⟩
end Go.Proofs.Ytfpeliolngfkpaa
/- What item of package rlp does, branch by branch. -/
namespace Go.Proofs.Ytfpeliolngfkpaa
open Go.RowKit SmWord
set_option maxRecDepth 100000

theorem rdStep_hdc (sub : Option (List Nat → Nat → Res)) (R : List Nat) (room : Nat) (hr : 0 < room ∨ R = []) : rdStep sub R room = match hdc R with
    | .bad k => .err k
    | .got ls u m => if room < u + m then .err 2 else if ls = false then (if 0 < u ∧ m = 1 ∧ R.getD u 0 < 128 then .err 2 else .ok [⟨false, (R.drop u).take m, 0⟩] (u + m)) else match sub with
      | none => .err 4
      | some one => match lop one (m + 1) (R.drop u) m [] with
        | .err e => .err e
        | .ok l _ => .ok (⟨true, [], (l.length : Int)⟩ :: l) (u + m) := by
  cases R with
  | nil => rfl
  | cons c T =>
    have hroom : 0 < room := by rcases hr with h | h; exact h; cases h
    unfold rdStep
    simp only
    by_cases hc : c < 128
    · have e : hdc (c :: T) = .got false 0 1 := by rw [hdc, if_pos hc]
      rw [e, if_pos hc]
      simp only
      rw [if_neg (by omega), if_pos trivial, if_neg (by omega)]
      rfl
    · rw [if_neg hc]
      cases hh : hdp c T with
      | bad k =>
        have e : hdc (c :: T) = .bad k := by rw [hdc, if_neg hc, hh]
        rw [e]
      | got ls u m =>
        simp only
        by_cases h2 : (c :: T).length - u < m
        · have e : hdc (c :: T) = .bad 3 := by rw [hdc, if_neg hc, hh]; simp only; rw [if_pos h2]
          rw [e, if_pos h2]
        · have e : hdc (c :: T) = .got ls u m := by rw [hdc, if_neg hc, hh]; simp only; rw [if_neg h2]
          have hu : 0 < u := by
            have := (hdc_fits e).2.2
            apply Classical.byContradiction
            intro h0
            have h3 := (this (by omega)).2.2
            simp only [List.getD_cons_zero] at h3
            exact hc h3
          rw [e, if_neg h2]
          simp only [hu, true_and]
          cases sub <;> rfl
/-- The reader's place and row. -/
structure Rd (W0 w : World) (rb : Nat) (bv : Value) (p : Nat) (v : Value) (l : List Nd) : Prop where
  below : Below W0.heap.size W0 w
  new : W0.heap.size ≤ rb
  blk : w.heap[rb]? = some (.cells #[bv, .int .i64 (p : Int), v] 55)
  row : Own w W0.heap.size v l
def ReadIs (W0 : World) (rb : Nat) (bv : Value) (p : Nat) (l : List Nd) (r : Res) (en : Ending) (w' : World) : Prop := match r with
  | .err k => en = .returned (.int .i64 (k : Int)) ∧ Below W0.heap.size W0 w'
  | .ok l' u => en = .returned (.int .i64 0) ∧ ∃ v', Rd W0 w' rb bv (p + u) v' (l ++ l')
set_option maxHeartbeats 2000000 in
theorem item_bad (k : Nat) (hk : k ≠ 0) (rb n c n1 c1 p e lists : Nat) (A A' : Option Addr) (v : Value) (w : World) (HR : Hid (w.heap[rb]? = some (.cells #[.slice A n c, .int .i64 (p : Int), v] 55)))
    (es : ∀ w' : World, (Instr.sliceAt 25 (.slice A n c) (some (.int .i64 (p : Int))) none none).run Try.prog w' = .ok (.slice A' n1 c1) w')
    (KH : Hid (∀ w' : World, Below w.heap.size w w' → Calls Try.prog 34 #[.slice A' n1 c1] w' fun en w2 => en = .returned (.tuple #[.bool false, .int .i64 0, .int .i64 0, .int .i64 (k : Int)]) ∧ Below w'.heap.size w' w2)) :
    Calls Try.prog 22 #[.pointer (some ⟨rb, 0, none⟩), .int .i64 (e : Int), .int .i64 (lists : Int)] w fun en w' => en = .returned (.int .i64 (k : Int)) ∧ Below w.heap.size w w' := by
  have q1 : (((k : Nat) : Int) != 0) = true := by rw [bne_iff_ne]; omega
  go_enter Try.func22, Try.ntmps22
  go_wp2_with fail
  refine region_ext (by kernel_rfl) (by kernel_rfl) ?_
  have cell : ∀ (g : Ext w) {b o : Nat} {v : Value}, w.cell? ⟨b, o, none⟩ = some v → g.on.cell? ⟨b, o, none⟩ = some v := fun g b o v h => (g.below.cell (p := ⟨b, o, none⟩) (by simpa using World.block_lt_of_cell? w _ h)).trans h
  have t0 := fun g : Ext w => cell g (blk_cell (j := 0) HR.out rfl)
  have t1 := fun g : Ext w => cell g (blk_cell (j := 1) HR.out rfl)
  simp only [List.getElem_toArray, List.getElem_cons_zero, List.getElem_cons_succ] at t0 t1
  clear cell
  repeat (go_big_quiet_step ((go_at_call 34; exact calls_ext (KH.out _ (Ext.below _)))))
  refine wpQuiet_nil ?_
  rintro w1 ⟨g, rfl⟩
  have B1 := Lib.hid g.below
  have R1 := Lib.hid (g.block HR.out)
  clear t0 t1
  generalize g.on = w1 at *
  go_wp2_with fail
  go_ret
  exact ⟨rfl, B1.out⟩
set_option maxHeartbeats 2000000 in
theorem item_far (ls : Bool) (u m : Nat) (rb n c n1 c1 p e lists : Nat) (A A' : Option Addr) (v : Value) (w : World) (HR : Hid (w.heap[rb]? = some (.cells #[.slice A n c, .int .i64 (p : Int), v] 55)))
    (es : ∀ w' : World, (Instr.sliceAt 25 (.slice A n c) (some (.int .i64 (p : Int))) none none).run Try.prog w' = .ok (.slice A' n1 c1) w')
    (hfar : e < p + u + m) (hum : p + u + m ≤ 1048576) (KH : Hid (∀ w' : World, Below w.heap.size w w' → Calls Try.prog 34 #[.slice A' n1 c1] w' fun en w2 => en = .returned (.tuple #[.bool ls, .int .i64 (u : Int), .int .i64 (m : Int), .int .i64 0]) ∧ Below w'.heap.size w' w2)) :
    Calls Try.prog 22 #[.pointer (some ⟨rb, 0, none⟩), .int .i64 (e : Int), .int .i64 (lists : Int)] w fun en w' => en = .returned (.int .i64 2) ∧ Below w.heap.size w w' := by
  obtain ⟨st, hst⟩ : ∃ st, p + u = st := ⟨_, rfl⟩
  obtain ⟨so, hso⟩ : ∃ so, st + m = so := ⟨_, rfl⟩
  have e1 : (p : Int) + (u : Int) = (st : Int) := by omega
  have e2 : (st : Int) + (m : Int) = (so : Int) := by omega
  have q1 : decide ((e : Int) < (so : Int)) = true := decide_eq_true (by omega)
  go_enter Try.func22, Try.ntmps22
  go_wp2_with fail
  refine region_ext (by kernel_rfl) (by kernel_rfl) ?_
  have cell : ∀ (g : Ext w) {b o : Nat} {v : Value}, w.cell? ⟨b, o, none⟩ = some v → g.on.cell? ⟨b, o, none⟩ = some v := fun g b o v h => (g.below.cell (p := ⟨b, o, none⟩) (by simpa using World.block_lt_of_cell? w _ h)).trans h
  have t0 := fun g : Ext w => cell g (blk_cell (j := 0) HR.out rfl)
  have t1 := fun g : Ext w => cell g (blk_cell (j := 1) HR.out rfl)
  simp only [List.getElem_toArray, List.getElem_cons_zero, List.getElem_cons_succ] at t0 t1
  clear cell
  repeat (go_big_quiet_step ((go_at_call 34; exact calls_ext (KH.out _ (Ext.below _)))))
  refine wpQuiet_nil ?_
  rintro w1 ⟨g, rfl⟩
  have B1 := Lib.hid g.below
  have R1 := Lib.hid (g.block HR.out)
  clear t0 t1
  generalize g.on = w1 at *
  have t0 : w1.cell? ⟨rb, 0, none⟩ = some (.slice A n c) := blk_cell (j := 0) R1.out rfl
  have t1 : w1.cell? ⟨rb, 1, none⟩ = some (.int .i64 (p : Int)) := blk_cell (j := 1) R1.out rfl
  go_wp2_with fail
  go_ret
  exact ⟨rfl, B1.out⟩
set_option maxHeartbeats 2000000 in
theorem item_bare (ls : Bool) (u m : Nat) (rb n c n1 c1 p e lists : Nat) (A A' : Option Addr) (v : Value) (w : World) (HR : Hid (w.heap[rb]? = some (.cells #[.slice A n c, .int .i64 (p : Int), v] 55))) (he6 : e ≤ 1048576)
    (es : ∀ w' : World, (Instr.sliceAt 25 (.slice A n c) (some (.int .i64 (p : Int))) none none).run Try.prog w' = .ok (.slice A' n1 c1) w')
    (hls : ls = false) (hu : 0 < u) (hfar : p + u + m ≤ e) (KH : Hid (∀ w' : World, Below w.heap.size w w' → Calls Try.prog 34 #[.slice A' n1 c1] w' fun en w2 => en = .returned (.tuple #[.bool ls, .int .i64 (u : Int), .int .i64 (m : Int), .int .i64 0]) ∧ Below w'.heap.size w' w2))
    (A2 : Option Addr) (c2 : Nat) (em : ∀ w' : World, (Instr.sliceAt 25 (.slice A n c) (some (.int .i64 ((p + u : Nat) : Int))) (some (.int .i64 ((p + u + m : Nat) : Int))) none).run Try.prog w' = .ok (.slice A2 m c2) w')
    (KB : Hid (∀ w' : World, Below w.heap.size w w' → Calls Try.prog 17 #[.slice A2 m c2] w' fun en w2 => en = .returned (.bool true) ∧ w2 = w')) :
    Calls Try.prog 22 #[.pointer (some ⟨rb, 0, none⟩), .int .i64 (e : Int), .int .i64 (lists : Int)] w fun en w' => en = .returned (.int .i64 2) ∧ Below w.heap.size w w' := by
  subst hls
  obtain ⟨st, hst⟩ : ∃ st, p + u = st := ⟨_, rfl⟩
  obtain ⟨so, hso⟩ : ∃ so, st + m = so := ⟨_, rfl⟩
  have e1 : (p : Int) + (u : Int) = (st : Int) := by omega
  have e2 : (st : Int) + (m : Int) = (so : Int) := by omega
  rw [hst, hso] at em
  have q1 : decide ((e : Int) < (so : Int)) = false := decide_eq_false (by omega)
  have q2 : decide ((0 : Int) < (u : Int)) = true := decide_eq_true (by omega)
  go_enter Try.func22, Try.ntmps22
  go_wp2_with fail
  refine region_ext (by kernel_rfl) (by kernel_rfl) ?_
  have cell : ∀ (g : Ext w) {b o : Nat} {v : Value}, w.cell? ⟨b, o, none⟩ = some v → g.on.cell? ⟨b, o, none⟩ = some v := fun g b o v h => (g.below.cell (p := ⟨b, o, none⟩) (by simpa using World.block_lt_of_cell? w _ h)).trans h
  have t0 := fun g : Ext w => cell g (blk_cell (j := 0) HR.out rfl)
  have t1 := fun g : Ext w => cell g (blk_cell (j := 1) HR.out rfl)
  simp only [List.getElem_toArray, List.getElem_cons_zero, List.getElem_cons_succ] at t0 t1
  clear cell
  repeat (go_big_quiet_step ((go_at_call 34; exact calls_ext (KH.out _ (Ext.below _)))))
  refine wpQuiet_nil ?_
  rintro w1 ⟨g, rfl⟩
  have B1 := Lib.hid g.below
  have R1 := Lib.hid (g.block HR.out)
  clear t0 t1
  generalize g.on = w1 at *
  have t0 : w1.cell? ⟨rb, 0, none⟩ = some (.slice A n c) := blk_cell (j := 0) R1.out rfl
  have t1 : w1.cell? ⟨rb, 1, none⟩ = some (.int .i64 (p : Int)) := blk_cell (j := 1) R1.out rfl
  go_wp2_with fail
  refine (KB.out _ B1.out).mono ?_
  rintro en w2 ⟨rfl, rfl⟩
  go_wp2_with fail
  go_ret
  exact ⟨rfl, B1.out⟩
set_option maxHeartbeats 2000000 in
theorem item_deep (u m : Nat) (rb n c n1 c1 p e lists : Nat) (A A' : Option Addr) (v : Value) (w : World) (HR : Hid (w.heap[rb]? = some (.cells #[.slice A n c, .int .i64 (p : Int), v] 55))) (he6 : e ≤ 1048576)
    (es : ∀ w' : World, (Instr.sliceAt 25 (.slice A n c) (some (.int .i64 (p : Int))) none none).run Try.prog w' = .ok (.slice A' n1 c1) w')
    (hu : 0 < u) (hfar : p + u + m ≤ e) (hl : lists = 64) (KH : Hid (∀ w' : World, Below w.heap.size w w' → Calls Try.prog 34 #[.slice A' n1 c1] w' fun en w2 => en = .returned (.tuple #[.bool true, .int .i64 (u : Int), .int .i64 (m : Int), .int .i64 0]) ∧ Below w'.heap.size w' w2)) :
    Calls Try.prog 22 #[.pointer (some ⟨rb, 0, none⟩), .int .i64 (e : Int), .int .i64 (lists : Int)] w fun en w' => en = .returned (.int .i64 4) ∧ Below w.heap.size w w' := by
  subst hl
  obtain ⟨st, hst⟩ : ∃ st, p + u = st := ⟨_, rfl⟩
  obtain ⟨so, hso⟩ : ∃ so, st + m = so := ⟨_, rfl⟩
  have e1 : (p : Int) + (u : Int) = (st : Int) := by omega
  have e2 : (st : Int) + (m : Int) = (so : Int) := by omega
  have q1 : decide ((e : Int) < (so : Int)) = false := decide_eq_false (by omega)
  have q2 : decide ((0 : Int) < (u : Int)) = true := decide_eq_true (by omega)
  go_enter Try.func22, Try.ntmps22
  go_wp2_with fail
  refine region_ext (by kernel_rfl) (by kernel_rfl) ?_
  have cell : ∀ (g : Ext w) {b o : Nat} {v : Value}, w.cell? ⟨b, o, none⟩ = some v → g.on.cell? ⟨b, o, none⟩ = some v := fun g b o v h => (g.below.cell (p := ⟨b, o, none⟩) (by simpa using World.block_lt_of_cell? w _ h)).trans h
  have t0 := fun g : Ext w => cell g (blk_cell (j := 0) HR.out rfl)
  have t1 := fun g : Ext w => cell g (blk_cell (j := 1) HR.out rfl)
  simp only [List.getElem_toArray, List.getElem_cons_zero, List.getElem_cons_succ] at t0 t1
  clear cell
  repeat (go_big_quiet_step ((go_at_call 34; exact calls_ext (KH.out _ (Ext.below _)))))
  refine wpQuiet_nil ?_
  rintro w1 ⟨g, rfl⟩
  have B1 := Lib.hid g.below
  have R1 := Lib.hid (g.block HR.out)
  clear t0 t1
  generalize g.on = w1 at *
  have t0 : w1.cell? ⟨rb, 0, none⟩ = some (.slice A n c) := blk_cell (j := 0) R1.out rfl
  have t1 : w1.cell? ⟨rb, 1, none⟩ = some (.int .i64 (p : Int)) := blk_cell (j := 1) R1.out rfl
  go_wp2_with fail
  go_ret
  exact ⟨rfl, B1.out⟩
set_option maxHeartbeats 2000000 in
theorem item_list (u m : Nat) (Post : Ending → World → Prop) (rb n c n1 c1 p e lists : Nat) (A A' : Option Addr) (v : Value) (w : World) (HR : Hid (w.heap[rb]? = some (.cells #[.slice A n c, .int .i64 (p : Int), v] 55))) (he6 : e ≤ 1048576)
    (es : ∀ w' : World, (Instr.sliceAt 25 (.slice A n c) (some (.int .i64 (p : Int))) none none).run Try.prog w' = .ok (.slice A' n1 c1) w')
    (hu : 0 < u) (hfar : p + u + m ≤ e) (hl : lists < 64) (KH : Hid (∀ w' : World, Below w.heap.size w w' → Calls Try.prog 34 #[.slice A' n1 c1] w' fun en w2 => en = .returned (.tuple #[.bool true, .int .i64 (u : Int), .int .i64 (m : Int), .int .i64 0]) ∧ Below w'.heap.size w' w2))
    (KI : Hid (∀ w' : World, Below w.heap.size w w' → w'.heap[rb]? = some (.cells #[.slice A n c, .int .i64 (p : Int), v] 55) → Calls Try.prog 35 #[.pointer (some ⟨rb, 0, none⟩), .int .i64 ((p + u + m : Nat) : Int), .int .i64 ((lists + 1 : Nat) : Int)] (w'.setCell ⟨rb, 1, none⟩ (.int .i64 ((p + u : Nat) : Int))) fun en w2 => Post en w2 ∧ ∃ k : Nat, en = .returned (.int .i64 (k : Int)))) :
    Calls Try.prog 22 #[.pointer (some ⟨rb, 0, none⟩), .int .i64 (e : Int), .int .i64 (lists : Int)] w Post := by
  obtain ⟨st, hst⟩ : ∃ st, p + u = st := ⟨_, rfl⟩
  obtain ⟨so, hso⟩ : ∃ so, st + m = so := ⟨_, rfl⟩
  have e1 : (p : Int) + (u : Int) = (st : Int) := by omega
  have e2 : (st : Int) + (m : Int) = (so : Int) := by omega
  rw [hst, hso] at KI
  obtain ⟨ln, hln⟩ : ∃ ln, lists + 1 = ln := ⟨_, rfl⟩
  rw [hln] at KI
  have e3 : (lists : Int) + 1 = (ln : Int) := by omega
  have q1 : decide ((e : Int) < (so : Int)) = false := decide_eq_false (by omega)
  have q2 : decide ((0 : Int) < (u : Int)) = true := decide_eq_true (by omega)
  have q3 : ((lists : Int) == 64) = false := by simp; omega
  go_enter Try.func22, Try.ntmps22
  go_wp2_with fail
  refine region_ext (by kernel_rfl) (by kernel_rfl) ?_
  have cell : ∀ (g : Ext w) {b o : Nat} {v : Value}, w.cell? ⟨b, o, none⟩ = some v → g.on.cell? ⟨b, o, none⟩ = some v := fun g b o v h => (g.below.cell (p := ⟨b, o, none⟩) (by simpa using World.block_lt_of_cell? w _ h)).trans h
  have t0 := fun g : Ext w => cell g (blk_cell (j := 0) HR.out rfl)
  have t1 := fun g : Ext w => cell g (blk_cell (j := 1) HR.out rfl)
  simp only [List.getElem_toArray, List.getElem_cons_zero, List.getElem_cons_succ] at t0 t1
  clear cell
  repeat (go_big_quiet_step ((go_at_call 34; exact calls_ext (KH.out _ (Ext.below _)))))
  refine wpQuiet_nil ?_
  rintro w1 ⟨g, rfl⟩
  have B1 := Lib.hid g.below
  have R1 := Lib.hid (g.block HR.out)
  clear t0 t1
  generalize g.on = w1 at *
  have t0 : w1.cell? ⟨rb, 0, none⟩ = some (.slice A n c) := blk_cell (j := 0) R1.out rfl
  have t1 : w1.cell? ⟨rb, 1, none⟩ = some (.int .i64 (p : Int)) := blk_cell (j := 1) R1.out rfl
  have f1 := blk_frozen (j := 1) R1.out
  go_wp2_with fail
  refine (KI.out _ B1.out R1.out).mono ?_
  rintro en w2 ⟨hp, k, rfl⟩
  have HP := Lib.hid hp
  clear hp
  go_wp2_with fail
  exact HP.out
end Go.Proofs.Ytfpeliolngfkpaa
/- What item of package rlp does with bytes. -/
namespace Go.Proofs.Ytfpeliolngfkpaa
open Go.RowKit SmWord
set_option maxRecDepth 100000

theorem item_done {w w1 w4 w5 : World} {base rb k : Nat} {x : Array Value} {v : Value} {cs : List Value} {row : Array Value} {A3 : Option Addr} {l : List Nat} (hK : Keeps base TN w w1) (hb : base ≤ w.heap.size) (hb4 : Below w1.heap.size w1 w4) (hR : w4.heap[rb]? = some (.cells x 55)) (hO : w4.ownsRow base 43 3 v k cs) (hs : S8 w4 A3 l)
    (hg : (w4.alloc (.cells row 43)).grownBy w5 v.ownBlock) : Keeps base TN w w5 ∧ w5.heap[rb]? = some (.cells x 55) ∧ S8 w5 A3 l := by
  have h1 : base ≤ w1.heap.size := Nat.le_trans hb hK.size
  have h4 : base ≤ w4.heap.size := Nat.le_trans h1 hb4.size
  have ha : base ≤ (w4.alloc (.cells row 43)).heap.size := Nat.le_trans h4 (by simp)
  have k4 : ∀ T, Keeps base T w4 (w4.alloc (.cells row 43)) := fun T => (Keeps.refl base T w4).alloc h4 _
  have k5 : Keeps base (fun t => t == 43) w4 w5 := (k4 _).grown hg (hO.alloc _) rfl ha
  refine ⟨(((hK.trans (.of_below hb4 h1)).alloc h4 _)).grown hg (hO.alloc _) rfl ha, k5.other _ _ _ _ rfl hR, hs.keeps k5 rfl⟩
theorem item_stored {w w5 : World} {base rb k : Nat} {a b c vv s : Value} {cs : List Value} {A3 : Option Addr} {l : List Nat} (hK : Keeps base TN w w5) (hrb : base ≤ rb) (hR : w5.heap[rb]? = some (.cells #[a, b, c] 55)) (hs : S8 w5 A3 l) (ho : w5.ownsRow base 43 3 vv k cs) :
    Keeps base TN w ((w5.setCell ⟨rb, 2, none⟩ vv).setCell ⟨rb, 1, none⟩ s) ∧ ((w5.setCell ⟨rb, 2, none⟩ vv).setCell ⟨rb, 1, none⟩ s).heap[rb]? = some (.cells #[a, s, vv] 55) ∧ ((w5.setCell ⟨rb, 2, none⟩ vv).setCell ⟨rb, 1, none⟩ s).ownsRow base 43 3 vv k cs ∧ S8 ((w5.setCell ⟨rb, 2, none⟩ vv).setCell ⟨rb, 1, none⟩ s) A3 l := by
  have h6 : (w5.setCell ⟨rb, 2, none⟩ vv).heap[rb]? = some (.cells #[a, b, vv] 55) := blk_set hR vv
  have kr : Keeps base (fun t => t == 55) w5 ((w5.setCell ⟨rb, 2, none⟩ vv).setCell ⟨rb, 1, none⟩ s) := ((Keeps.refl base _ w5).setCell hR rfl hrb vv).setCell h6 rfl hrb s
  exact ⟨(hK.setCell hR rfl hrb vv).setCell h6 rfl hrb s, blk_set h6 s, own_keeps ho kr rfl, hs.keeps kr rfl⟩
set_option maxHeartbeats 8000000 in
theorem item_bytes (u m base k : Nat) (cs : List Value) (bl' : List Nat) (rb n c n1 c1 p e lists : Nat) (A A' : Option Addr) (v : Value) (w : World) (HR : Hid (w.heap[rb]? = some (.cells #[.slice A n c, .int .i64 (p : Int), v] 55))) (he6 : e ≤ 1048576)
    (es : ∀ w' : World, (Instr.sliceAt 25 (.slice A n c) (some (.int .i64 (p : Int))) none none).run Try.prog w' = .ok (.slice A' n1 c1) w')
    (hm : bl'.length = m) (hb8 : ∀ x ∈ bl', x < 256) (hbase : base ≤ w.heap.size) (hrb : base ≤ rb) (hk : k < 2000000) (hown : w.ownsRow base 43 3 v k cs) (hfar : p + u + m ≤ e) (KH : Hid (∀ w' : World, Below w.heap.size w w' → Calls Try.prog 34 #[.slice A' n1 c1] w' fun en w2 => en = .returned (.tuple #[.bool false, .int .i64 (u : Int), .int .i64 (m : Int), .int .i64 0]) ∧ Below w'.heap.size w' w2))
    (A2 : Option Addr) (c2 : Nat) (em : ∀ w' : World, (Instr.sliceAt 25 (.slice A n c) (some (.int .i64 ((p + u : Nat) : Int))) (some (.int .i64 ((p + u + m : Nat) : Int))) none).run Try.prog w' = .ok (.slice A2 m c2) w')
    (KB : u = 0 ∨ (0 < u ∧ Hid (∀ w' : World, Below w.heap.size w w' → Calls Try.prog 17 #[.slice A2 m c2] w' fun en w2 => en = .returned (.bool false) ∧ w2 = w')))
    (KC : Hid (∀ w' : World, Below w.heap.size w w' → Calls Try.prog 36 #[.slice A2 m c2] w' fun en w2 => (∃ v, en = .returned v ∧ w2.ownsRow w'.heap.size 5 1 v m (lb8 bl')) ∧ Below w'.heap.size w' w2)) :
    Calls Try.prog 22 #[.pointer (some ⟨rb, 0, none⟩), .int .i64 (e : Int), .int .i64 (lists : Int)] w fun en w' => en = .returned (.int .i64 0) ∧ Keeps base TN w w' ∧ ∃ v' A3 c3, w'.heap[rb]? = some (.cells #[.slice A n c, .int .i64 ((p + u + m : Nat) : Int), v'] 55) ∧ w'.ownsRow base 43 3 v' (k + 1) (cs ++ [.bool false, .slice A3 m c3, .int .i64 0]) ∧ m ≤ c3 ∧ (A3 = none → m = 0 ∧ c3 = 0) ∧ S8 w' A3 bl' := by
  obtain ⟨st, hst⟩ : ∃ st, p + u = st := ⟨_, rfl⟩
  obtain ⟨so, hso⟩ : ∃ so, st + m = so := ⟨_, rfl⟩
  have e1 : (p : Int) + (u : Int) = (st : Int) := by omega
  have e2 : (st : Int) + (m : Int) = (so : Int) := by omega
  rw [hst, hso] at em
  rw [hst, hso]
  have HO := Lib.hid hown
  have H8 := Lib.hid (And.intro hm hb8)
  have q1 : decide ((e : Int) < (so : Int)) = false := decide_eq_false (by omega)
  clear hown hm hb8
  go_enter Try.func22, Try.ntmps22
  go_wp2_with fail
  refine region_ext (by kernel_rfl) (by kernel_rfl) ?_
  have cell : ∀ (g : Ext w) {b o : Nat} {v : Value}, w.cell? ⟨b, o, none⟩ = some v → g.on.cell? ⟨b, o, none⟩ = some v := fun g b o v h => (g.below.cell (p := ⟨b, o, none⟩) (by simpa using World.block_lt_of_cell? w _ h)).trans h
  have t0 := fun g : Ext w => cell g (blk_cell (j := 0) HR.out rfl)
  have t1 := fun g : Ext w => cell g (blk_cell (j := 1) HR.out rfl)
  simp only [List.getElem_toArray, List.getElem_cons_zero, List.getElem_cons_succ] at t0 t1
  clear cell
  repeat (go_big_quiet_step ((go_at_call 34; exact calls_ext (KH.out _ (Ext.below _)))))
  refine wpQuiet_nil ?_
  rintro w1 ⟨g, rfl⟩
  have B1 := Lib.hid g.below
  have R1 := Lib.hid (g.block HR.out)
  clear t0 t1
  generalize g.on = w1 at *
  have t0 : w1.cell? ⟨rb, 0, none⟩ = some (.slice A n c) := blk_cell (j := 0) R1.out rfl
  have t1 : w1.cell? ⟨rb, 1, none⟩ = some (.int .i64 (p : Int)) := blk_cell (j := 1) R1.out rfl
  have K1 : Hid (Keeps base TN w w1) := Lib.hid (Keeps.of_below B1.out hbase)
  have O1 := Lib.hid (own_below HO.out B1.out)
  have hbs1 : base ≤ w1.heap.size := Nat.le_trans hbase K1.out.size
  have t2 : w1.cell? ⟨rb, 2, none⟩ = some v := blk_cell (j := 2) R1.out rfl
  have cut : ∃ w2, w2 = w1 := ⟨_, rfl⟩
  have main : True := trivial
  clear cut main
  obtain ⟨i0, hi0, hz0, hz1, hz2⟩ := Try.partsN
  have em2 := fun w' : World => (run_sliceAt_slice (P := Try.prog) w' 25 (.slice A n c) (some (.int .i64 (st : Int))) (some (.int .i64 (so : Int))) none (by kernel_rfl)).symm.trans (em w')
  rcases KB with hu | ⟨hu, KB⟩
  · have q2 : decide ((0 : Int) < (u : Int)) = false := decide_eq_false (by omega)
    have q2n : decide (0 < u) = false := decide_eq_false (by omega)
    clear hu
    go_wp2_with fail
    go_region_law (first | (go_simp; go_at_call 36; refine (KC.out _ (B1.out.trans (Below.refl _ _).drew)).mono ?_; rintro en w4 ⟨⟨v4, rfl, o4⟩, b4⟩; obtain ⟨A3, c3, rfl, hc3, hA3, hs8⟩ := S8.own (l := bl') (by rw [H8.out.1]; exact o4) H8.out.2; have O4 := Lib.hid (own_below O1.out ((Below.refl _ _).drew.trans b4)); have R4 := Lib.hid (stay ((Below.refl _ _).drew.trans b4) R1.out); have s0 : w4.cell? ⟨rb, 0, none⟩ = some (.slice A n c) := blk_cell (j := 0) R4.out rfl; have s1 : w4.cell? ⟨rb, 1, none⟩ = some (.int .i64 (p : Int)) := blk_cell (j := 1) R4.out rfl; have s2 : w4.cell? ⟨rb, 2, none⟩ = some v := blk_cell (j := 2) R4.out rfl; have s3 : ∀ ob : Obj, (w4.alloc ob).cell? ⟨rb, 2, none⟩ = some v := fun ob => (((Below.refl w4.heap.size w4).alloc (Nat.le_refl _) ob).cell (p := ⟨rb, 2, none⟩) (Array.getElem?_eq_some_iff.1 R4.out).1).trans s2; clear o4) | (refine step_append_lies _ rfl _ _ 22 rfl base 43 i0 (.agg zN) 3 40 Try.underlying22 hi0 hz0 hz1 hz2 rfl (by decide) v k cs rfl (O4.out.alloc _) ⟨w4.heap.size, 0, none⟩ 1 1 [.bool false, .slice A3 bl'.length c3, .int .i64 0] rfl rfl (World.news_of_block (cs := #[.bool false, .slice A3 bl'.length c3, .int .i64 0]) (heap_alloc_new _ _)) (by simp [Value.oneCell']) (by decide) (by unfold maxLen; omega) (by omega) (by simp; have := b4.size; simp at this; omega) _ rfl ?_; intro ng ncap w5 hown5 hgrow hat hlt5; have O5 := Lib.hid hown5; have D5 := Lib.hid (item_done K1.out hbase ((Below.refl _ _).drew.trans b4) R4.out O4.out hs8 hgrow); have s5 : w5.cell? ⟨rb, 2, none⟩ = some v := blk_cell (j := 2) D5.out.2.1 rfl; have z5 := blk_frozen (j := 2) D5.out.2.1; clear hown5 hgrow hat))
    all_goals
      have R6 : (w5.setCell ⟨rb, 2, none⟩ (.slice (some ⟨ng, 0, none⟩) (k + 1) ncap)).heap[rb]? = some (.cells #[.slice A n c, .int .i64 (p : Int), .slice (some ⟨ng, 0, none⟩) (k + 1) ncap] 55) := blk_set D5.out.2.1 _
      have u1 : (w5.setCell ⟨rb, 2, none⟩ (.slice (some ⟨ng, 0, none⟩) (k + 1) ncap)).cell? ⟨rb, 1, none⟩ = some (.int .i64 (p : Int)) := blk_cell (j := 1) R6 rfl
      have y1 := blk_frozen (j := 1) R6
      clear t0 t1 t2 R6
      try simp only [Act.put, List.setIfInBounds_toArray, List.set_cons_zero, List.set_cons_succ]
      go_wp2_with fail
      go_ret
      have F7 := item_stored (s := .int .i64 (so : Int)) D5.out.1 hrb D5.out.2.1 D5.out.2.2 O5.out
      have h8 := H8.out.1
      subst h8
      exact ⟨rfl, F7.1, _, A3, c3, F7.2.1, F7.2.2.1, hc3, hA3, F7.2.2.2⟩
  · have q2 : decide ((0 : Int) < (u : Int)) = true := decide_eq_true (by omega)
    have q2n : decide (0 < u) = true := decide_eq_true (by omega)
    clear hu
    go_wp2_with fail
    refine (KB.out _ B1.out).mono ?_
    rintro en w2 ⟨rfl, rfl⟩
    go_wp2_with fail
    go_region_law (first | (go_simp; go_at_call 36; refine (KC.out _ (B1.out.trans (Below.refl _ _).drew)).mono ?_; rintro en w4 ⟨⟨v4, rfl, o4⟩, b4⟩; obtain ⟨A3, c3, rfl, hc3, hA3, hs8⟩ := S8.own (l := bl') (by rw [H8.out.1]; exact o4) H8.out.2; have O4 := Lib.hid (own_below O1.out ((Below.refl _ _).drew.trans b4)); have R4 := Lib.hid (stay ((Below.refl _ _).drew.trans b4) R1.out); have s0 : w4.cell? ⟨rb, 0, none⟩ = some (.slice A n c) := blk_cell (j := 0) R4.out rfl; have s1 : w4.cell? ⟨rb, 1, none⟩ = some (.int .i64 (p : Int)) := blk_cell (j := 1) R4.out rfl; have s2 : w4.cell? ⟨rb, 2, none⟩ = some v := blk_cell (j := 2) R4.out rfl; have s3 : ∀ ob : Obj, (w4.alloc ob).cell? ⟨rb, 2, none⟩ = some v := fun ob => (((Below.refl w4.heap.size w4).alloc (Nat.le_refl _) ob).cell (p := ⟨rb, 2, none⟩) (Array.getElem?_eq_some_iff.1 R4.out).1).trans s2; clear o4) | (refine step_append_lies _ rfl _ _ 22 rfl base 43 i0 (.agg zN) 3 40 Try.underlying22 hi0 hz0 hz1 hz2 rfl (by decide) v k cs rfl (O4.out.alloc _) ⟨w4.heap.size, 0, none⟩ 1 1 [.bool false, .slice A3 bl'.length c3, .int .i64 0] rfl rfl (World.news_of_block (cs := #[.bool false, .slice A3 bl'.length c3, .int .i64 0]) (heap_alloc_new _ _)) (by simp [Value.oneCell']) (by decide) (by unfold maxLen; omega) (by omega) (by simp; have := b4.size; simp at this; omega) _ rfl ?_; intro ng ncap w5 hown5 hgrow hat hlt5; have O5 := Lib.hid hown5; have D5 := Lib.hid (item_done K1.out hbase ((Below.refl _ _).drew.trans b4) R4.out O4.out hs8 hgrow); have s5 : w5.cell? ⟨rb, 2, none⟩ = some v := blk_cell (j := 2) D5.out.2.1 rfl; have z5 := blk_frozen (j := 2) D5.out.2.1; clear hown5 hgrow hat))
    all_goals
      have R6 : (w5.setCell ⟨rb, 2, none⟩ (.slice (some ⟨ng, 0, none⟩) (k + 1) ncap)).heap[rb]? = some (.cells #[.slice A n c, .int .i64 (p : Int), .slice (some ⟨ng, 0, none⟩) (k + 1) ncap] 55) := blk_set D5.out.2.1 _
      have u1 : (w5.setCell ⟨rb, 2, none⟩ (.slice (some ⟨ng, 0, none⟩) (k + 1) ncap)).cell? ⟨rb, 1, none⟩ = some (.int .i64 (p : Int)) := blk_cell (j := 1) R6 rfl
      have y1 := blk_frozen (j := 1) R6
      clear t0 t1 t2 R6
      try simp only [Act.put, List.setIfInBounds_toArray, List.set_cons_zero, List.set_cons_succ]
      go_wp2_with fail
      go_ret
      have F7 := item_stored (s := .int .i64 (so : Int)) D5.out.1 hrb D5.out.2.1 D5.out.2.2 O5.out
      have h8 := H8.out.1
      subst h8
      exact ⟨rfl, F7.1, _, A3, c3, F7.2.1, F7.2.2.1, hc3, hA3, F7.2.2.2⟩
end Go.Proofs.Ytfpeliolngfkpaa
