/- StorePlays, its parts: putting an account into its place, step by step, plainly. -/
import Derived.Test.YtpkoiifidlnbeaaG4
import Derived.Test.YtpkoiifidlnbeaaGd
namespace Go.Proofs.Ytpkoiifidlnbeaa
open SmWord

/-- One step of the document's Put: what is written so far, and whether x is in it. -/
def pstep (x : AV) (st : List AV × Bool) (y : AV) : List AV × Bool :=
  let st1 := if !st.2 && decide (x.a.ad < y.a.ad) then (st.1 ++ [x], true) else st
  if y.a.ad = x.a.ad then (st1.1 ++ [x], true) else (st1.1 ++ [y], st1.2)
def pfold (x : AV) (l : List AV) : List AV × Bool := l.foldl (pstep x) ([], false)
def pdone (x : AV) (st : List AV × Bool) : List AV := if st.2 then st.1 else st.1 ++ [x]
/-- Into its place. -/
def putV (x : AV) : List AV → List AV
  | [] => [x]
  | y :: l => if x.a.ad < y.a.ad then x :: y :: l else if y.a.ad = x.a.ad then x :: l else y :: putV x l
theorem putV_map (x : AV) : ∀ l : List AV, (putV x l).map AV.a = putA x.a (l.map AV.a)
  | [] => rfl
  | y :: l => by
    unfold putV
    rw [List.map_cons]
    unfold putA
    split
    · rfl
    · split
      · rfl
      · rw [List.map_cons, putV_map x l]
theorem pfold_snoc (x : AV) (l : List AV) (y : AV) : pfold x (l ++ [y]) = pstep x (pfold x l) y := by
  unfold pfold
  rw [List.foldl_append]
  rfl
/-- Behind x's place all is copied. -/
theorem pfold_after (x : AV) : ∀ (l : List AV) (out : List AV), (∀ y ∈ l, x.a.ad < y.a.ad) → l.foldl (pstep x) (out, true) = (out ++ l, true)
  | [], out, _ => by simp
  | y :: l, out, h => by
    have hy := h y (by simp)
    rw [List.foldl_cons]
    have : pstep x (out, true) y = (out ++ [y], true) := by
      have hne : ¬ y.a.ad = x.a.ad := by omega
      simp [pstep, hne]
    rw [this, pfold_after x l (out ++ [y]) (fun z hz => h z (by simp [hz]))]
    simp
theorem pfold_put (x : AV) : ∀ (l out : List AV), Srt (l.map AV.a) → pdone x (l.foldl (pstep x) (out, false)) = out ++ putV x l
  | [], out, _ => by simp [pdone, putV]
  | y :: l, out, h => by
    rw [List.map_cons] at h
    obtain ⟨h1, h2⟩ := List.pairwise_cons.1 h
    have hl : ∀ z ∈ l, y.a.ad < z.a.ad := fun z hz => h1 _ (List.mem_map_of_mem hz)
    rw [List.foldl_cons]
    unfold putV
    by_cases e1 : x.a.ad < y.a.ad
    · have : pstep x (out, false) y = (out ++ [x] ++ [y], true) := by
        unfold pstep
        simp [e1]
        omega
      rw [this, pfold_after x l _ (fun z hz => by have := hl z hz; omega), if_pos e1]
      simp [pdone]
    · rw [if_neg e1]
      by_cases e2 : y.a.ad = x.a.ad
      · have : pstep x (out, false) y = (out ++ [x], true) := by
          unfold pstep
          simp [e2]
        rw [this, pfold_after x l _ (fun z hz => by have := hl z hz; omega), if_pos e2]
        simp [pdone]
      · have : pstep x (out, false) y = (out ++ [y], false) := by
          unfold pstep
          simp [e1, e2]
        rw [this, if_neg e2, pfold_put x l (out ++ [y]) h2]
        simp
end Go.Proofs.Ytpkoiifidlnbeaa
/- StorePlays, its parts: the document's Put, walked. -/
namespace Go.Proofs.Ytpkoiifidlnbeaa
open Go.RowKit SmWord
set_option maxRecDepth 100000

theorem own_base {w : World} {b1 b2 : Nat} {e : TypeId} {k n : Nat} {v : Value} {xs : List Value} (h : w.ownsRow b1 e k v n xs) (hb : b2 ≤ b1) : w.ownsRow b2 e k v n xs := by
  refine ⟨h.1, ?_⟩
  rcases h.2 with h' | ⟨g, cap, cur, e1, h1, h2⟩
  · exact .inl h'
  · exact .inr ⟨g, cap, cur, e1, Nat.le_trans hb h1, h2⟩
theorem pfold_len (x : AV) : ∀ (l : List AV), (pfold x l).1.length ≤ 2 * l.length := by
  intro l
  have : ∀ (l : List AV) (st : List AV × Bool), (l.foldl (pstep x) st).1.length ≤ st.1.length + 2 * l.length := by
    intro l
    induction l with
    | nil => intro st; simp
    | cons y l ih =>
      intro st
      rw [List.foldl_cons]
      refine Nat.le_trans (ih _) ?_
      have : (pstep x st y).1.length ≤ st.1.length + 2 := by
        unfold pstep
        by_cases h1 : (!st.2 && decide (x.a.ad < y.a.ad)) = true <;> by_cases h2 : y.a.ad = x.a.ad <;> simp only [h1, h2, if_true, if_false, List.length_append, List.length_singleton] <;> simp <;> omega
      simp
      omega
  simpa [pfold] using this l ([], false)
set_option maxHeartbeats 4000000 in
theorem rput_walk (v : Value) (l : List AV) (x : AV) (w : World) (h : AccsZ (hp w) v l) (hx : AccZ (hp w) x) (hl : l.length ≤ 1000000) :
    Calls Try.prog 31 #[v, aval x] w fun e w' => ∃ val, e = .returned val ∧ w'.ownsRow w.heap.size 46 27 val (pdone x (pfold x l)).length ((pdone x (pfold x l)).flatMap acs) ∧ Below w.heap.size w w' := by
  unfold aval
  have hs : (acs x).toArray.size = 27 := by simp [acs_len]
  have f27 := fold27 x
  obtain ⟨P, c, rfl, hn, hc, hP, hcells⟩ := h.row.one (fun x _ => acs_len x)
  have HX := Lib.hid h.each
  have HXx := Lib.hid hx
  have OneX := Lib.hid (oneA x hx.cod.oneCell hx.sto.oneCell)
  generalize hN : l.length = n at *
  have HN := Lib.hid hN
  have HC : Hid (0 < n → ∃ b off, P = some ⟨b, off, none⟩ ∧ ∀ i x, l[i]? = some x → rng (hp w) b (off + i * 27) (acs x)) := Lib.hid fun hn => by
    obtain ⟨b, off, e, _, hi⟩ := hcells hn
    exact ⟨b, off, e, hi⟩
  clear hcells h hN hx
  obtain ⟨f0, bW⟩ := boxA w x
  obtain ⟨W, hW⟩ : ∃ W, w.alloc (.cells (acs x).toArray 46) = W := ⟨_, rfl⟩
  rw [hW] at f0 bW
  have sW : W.heap.size = w.heap.size + 1 := by rw [← hW]; simp
  obtain ⟨V, hV⟩ : ∃ V, W.alloc (.cells #[] 46) = V := ⟨_, rfl⟩
  have HO0 : Hid (V.ownsRow W.heap.size 46 27 (.slice (some ⟨w.heap.size + 1, 0, none⟩) 0 0) 0 []) := Lib.hid (sW ▸ hV ▸ own_empty W W.heap.size (Nat.le_refl _))
  have HV0 : Hid (Below W.heap.size W V) := Lib.hid (hV ▸ (Below.refl _ _).alloc (Nat.le_refl _) _)
  have HB := Lib.hid bW
  have F0 := Lib.hid f0
  clear f0 bW
  go_enter Try.func31, Try.ntmps31
  go_upto_region 3 with fail
  clear hW hV
  go_wp2_with fail
  go_loopw [5, 6, 11] (fun u d i wr => ∃ k : Nat, k ≤ n ∧ i = .int .i64 k ∧ d = .bool (pfold x (l.take k)).2 ∧ Hid (wr.ownsRow W.heap.size 46 27 u (pfold x (l.take k)).1.length ((pfold x (l.take k)).1.flatMap acs)) ∧ Hid (Below W.heap.size W wr)) (fun _ _ i _ => n - (intOf i).toNat)
  case atStart => exact ⟨0, Nat.zero_le _, rfl, rfl, HO0, HV0⟩
  case round =>
    obtain ⟨k, hk, rfl, rfl, HO, HW⟩ := hrel
    obtain ⟨A1, c1, e1⟩ := own_sl HO.out
    subst e1
    have BW : Hid (Below w.heap.size w wr) := Lib.hid (HB.out.trans (HW.out.mono HB.out.size))
    by_cases hlt : k < n
    · obtain ⟨b, off, rfl, hi⟩ := HC.out (by omega)
      obtain ⟨y, hy⟩ : ∃ y, l[k]? = some y := ⟨l[k]'(by rw [HN.out]; exact hlt), by simp⟩
      have HYy := Lib.hid (HX.out y (List.mem_of_getElem? hy))
      have OneY := Lib.hid (oneA y HYy.out.cod.oneCell HYy.out.sto.oneCell)
      have HRg := Lib.hid (hi k _ hy)
      have HYg := Lib.hid hy
      have y27 := fold27 y
      have sy27 : (acs y).toArray.size = 27 := by simp [acs_len]
      have HStep : Hid (pfold x (l.take (k + 1)) = pstep x (pfold x (l.take k)) y) := Lib.hid (by rw [List.take_add_one, hy]; exact pfold_snoc x _ y)
      have hlen : (pfold x (l.take k)).1.length ≤ 2000000 := by have := pfold_len x (l.take k); simp at this; omega
      generalize pfold x (l.take k) = st at *
      obtain ⟨so, sd⟩ := st
      simp only at hlen HO ⊢
      have r0 := fun g : Ext wr => (acs_rng (HRg.out.sub (hp_below (BW.out.trans (g.below.mono BW.out.size))))).at
      have r1 := fun g : Ext wr => (acs_rng (rng_block (cs := acs x) (g.block (stay HW.out F0.out)))).at
      have KL := Lib.hid fun g : Ext wr => less08_walk x.a.ad y.a.ad g.on
      rw [less_ad HXx.out.ad HYy.out.ad] at KL
      have hzr := HW.out.size
      clear hi hy
      go_upto_region 6 with fail
      cases sd
      · by_cases e1 : x.a.ad < y.a.ad
        · have e2 : ¬ y.a.ad = x.a.ad := by omega
          rw [decide_eq_true e1] at KL
          have E2 := Lib.hid e2
          clear e2
          refine region_ext (by kernel_rfl) (by kernel_rfl) ?_
          repeat (first
              | (go_big_quiet_want; refine quiet_load_mid 24 _ rfl b (off + k * 27) (aN y.a.ad).toList rfl (fun w2 hw2 => by obtain ⟨g1, rfl⟩ := hw2; exact r0 g1) Try.underlying24 rfl (infoAd _) ?_; simp only [Act.put, List.setIfInBounds_toArray, List.set_cons_succ, List.set_cons_zero, Array.toArray_toList]; go_big_quiet_on)
              | (go_big_quiet_want; refine quiet_load_mid 24 _ rfl w.heap.size 0 (aN x.a.ad).toList rfl (fun w2 hw2 => by obtain ⟨g1, rfl⟩ := hw2; exact r1 g1) Try.underlying24 rfl (infoAd _) ?_; simp only [Act.put, List.setIfInBounds_toArray, List.set_cons_succ, List.set_cons_zero, Array.toArray_toList]; go_big_quiet_on)
              | go_big_quiet_step (first | (go_at_call 41; with_reducible exact calls_ext (KL.out _))))
          refine wpQuiet_nil ?_
          rintro w' ⟨gg, rfl⟩
          have bb6 := gg.below
          have HW6 := Lib.hid (HW.out.trans (bb6.mono HW.out.size))
          have HO6 := Lib.hid (own_same HO.out (fun b hb => bb6.block b (HO.out.lt b hb).2))
          clear r0 r1 KL bb6
          generalize gg.on = w6 at *
          have hk1 := hk
          have rl7 := (rng_block (cs := acs x) (stay HW6.out F0.out)).at
          have ba7 : Below w6.heap.size w6 (w6.alloc (.cells (acs x).toArray 46)) := (Below.refl _ _).alloc (Nat.le_refl _) _
          have HA7 := Lib.hid (own_same HO6.out (fun b hb => ba7.block b (HO6.out.lt b hb).2))
          have HQ7 := Lib.hid (rowOne (heap_alloc_new w6 (.cells (acs x).toArray 46)))
          have HC7 := Lib.hid (HW6.out.trans (ba7.mono HW6.out.size))
          have hz7 := HW6.out.size
          clear ba7
          go_upto_region 9 with (first
            | (refine wpList_load_mid rfl 46 _ rfl w.heap.size 0 rfl (acs x) _ rl7 Try.underlying46 rfl (infoAcs _) ?_)
            | (refine append_row rfl _ _ 30 rfl 46 (.agg (acs noneAV).toArray) 27 112 Try.underlying30 infoA27 (by simp [Value.cells, acs_len]) (by decide) (by decide) W.heap.size _ so.length (so.flatMap acs) rfl HA7.out (.slice (some ⟨w6.heap.size, 0, none⟩) 1 1) 1 (acs x) rfl HQ7.out OneX.out (by omega) (by simp; omega) ?_
               intro v7 w7 ho7 hg7 hl7
               have HO7 := Lib.hid ho7
               have HW7 : Hid (Below W.heap.size W w7) := Lib.hid (HC7.out.grown hg7 (by simp; omega) (fun k hk => (HA7.out.lt k hk).1))
               obtain ⟨A7, c7, rfl⟩ := own_sl ho7
               clear ho7 hg7 hl7 rl7))
          have BW7 : Hid (Below w.heap.size w w7) := Lib.hid (HB.out.trans (HW7.out.mono HB.out.size))
          have r0 := fun g : Ext w7 => (acs_rng (HRg.out.sub (hp_below (BW7.out.trans (g.below.mono BW7.out.size))))).at
          have r1 := fun g : Ext w7 => (acs_rng (rng_block (cs := acs x) (g.block (stay HW7.out F0.out)))).at
          have eq := eq_ad y.a.ad x.a.ad HYy.out.ad HXx.out.ad
          have KL := True.intro
          rw [decide_eq_false E2.out] at eq
          refine region_ext (by kernel_rfl) (by kernel_rfl) ?_
          repeat (first
              | (go_big_quiet_want; refine quiet_load_mid 24 _ rfl b (off + k * 27) (aN y.a.ad).toList rfl (fun w2 hw2 => by obtain ⟨g1, rfl⟩ := hw2; exact r0 g1) Try.underlying24 rfl (infoAd _) ?_; simp only [Act.put, List.setIfInBounds_toArray, List.set_cons_succ, List.set_cons_zero, Array.toArray_toList]; go_big_quiet_on)
              | (go_big_quiet_want; refine quiet_load_mid 24 _ rfl w.heap.size 0 (aN x.a.ad).toList rfl (fun w2 hw2 => by obtain ⟨g1, rfl⟩ := hw2; exact r1 g1) Try.underlying24 rfl (infoAd _) ?_; simp only [Act.put, List.setIfInBounds_toArray, List.set_cons_succ, List.set_cons_zero, Array.toArray_toList]; go_big_quiet_on)
              | go_big_quiet_step (fail))
          refine wpQuiet_nil ?_
          rintro w' ⟨gg, rfl⟩
          have bb9 := gg.below
          have HW9 := Lib.hid (HW7.out.trans (bb9.mono HW7.out.size))
          have HO9 := Lib.hid (own_same HO7.out (fun b hb => bb9.block b (HO7.out.lt b hb).2))
          clear r0 r1 KL bb9
          generalize gg.on = w9 at *
          clear eq
          have rl10 := (HRg.out.sub (hp_below (HB.out.trans (HW9.out.mono HB.out.size)))).at
          have ba10 : Below w9.heap.size w9 (w9.alloc (.cells (acs y).toArray 46)) := (Below.refl _ _).alloc (Nat.le_refl _) _
          have HA10 := Lib.hid (own_same HO9.out (fun b hb => ba10.block b (HO9.out.lt b hb).2))
          have HQ10 := Lib.hid (rowOne (heap_alloc_new w9 (.cells (acs y).toArray 46)))
          have HC10 := Lib.hid (HW9.out.trans (ba10.mono HW9.out.size))
          have hz10 := HW9.out.size
          clear ba10
          go_wp2_with (first
            | (refine wpList_load_mid rfl 46 _ rfl b _ rfl (acs y) _ rl10 Try.underlying46 rfl (infoAcs _) ?_)
            | (refine append_row rfl _ _ 30 rfl 46 (.agg (acs noneAV).toArray) 27 112 Try.underlying30 infoA27 (by simp [Value.cells, acs_len]) (by decide) (by decide) W.heap.size _ (so.length + 1) (so.flatMap acs ++ acs x) rfl HA10.out (.slice (some ⟨w9.heap.size, 0, none⟩) 1 1) 1 (acs y) rfl HQ10.out OneY.out (by omega) (by simp; omega) ?_
               intro v10 w10 ho10 hg10 hl10
               have HO10 := Lib.hid ho10
               have HW10 : Hid (Below W.heap.size W w10) := Lib.hid (HC10.out.grown hg10 (by simp; omega) (fun k hk => (HA10.out.lt k hk).1))
               obtain ⟨A10, c10, rfl⟩ := own_sl ho10
               clear ho10 hg10 hl10 rl10))
          have e2 := E2.out
          exact ⟨⟨k + 1, by omega, by go_num, by rw [HStep.out]; simp [pstep, *], Lib.hid (by rw [HStep.out]; simpa [pstep, *] using HO10.out), HW10⟩, by simp [intOf]; omega⟩
        · rw [decide_eq_false e1] at KL
          by_cases e2 : y.a.ad = x.a.ad
          · skip
            have E2 := Lib.hid e2
            clear e2
            refine region_ext (by kernel_rfl) (by kernel_rfl) ?_
            repeat (first
                | (go_big_quiet_want; refine quiet_load_mid 24 _ rfl b (off + k * 27) (aN y.a.ad).toList rfl (fun w2 hw2 => by obtain ⟨g1, rfl⟩ := hw2; exact r0 g1) Try.underlying24 rfl (infoAd _) ?_; simp only [Act.put, List.setIfInBounds_toArray, List.set_cons_succ, List.set_cons_zero, Array.toArray_toList]; go_big_quiet_on)
                | (go_big_quiet_want; refine quiet_load_mid 24 _ rfl w.heap.size 0 (aN x.a.ad).toList rfl (fun w2 hw2 => by obtain ⟨g1, rfl⟩ := hw2; exact r1 g1) Try.underlying24 rfl (infoAd _) ?_; simp only [Act.put, List.setIfInBounds_toArray, List.set_cons_succ, List.set_cons_zero, Array.toArray_toList]; go_big_quiet_on)
                | go_big_quiet_step (first | (go_at_call 41; with_reducible exact calls_ext (KL.out _))))
            refine wpQuiet_nil ?_
            rintro w' ⟨gg, rfl⟩
            have bb6 := gg.below
            have HW6 := Lib.hid (HW.out.trans (bb6.mono HW.out.size))
            have HO6 := Lib.hid (own_same HO.out (fun b hb => bb6.block b (HO.out.lt b hb).2))
            clear r0 r1 KL bb6
            generalize gg.on = w6 at *
            have hk1 := hk
            go_upto_region 9 with fail
            have BW6 : Hid (Below w.heap.size w w6) := Lib.hid (HB.out.trans (HW6.out.mono HB.out.size))
            have r0 := fun g : Ext w6 => (acs_rng (HRg.out.sub (hp_below (BW6.out.trans (g.below.mono BW6.out.size))))).at
            have r1 := fun g : Ext w6 => (acs_rng (rng_block (cs := acs x) (g.block (stay HW6.out F0.out)))).at
            have eq := eq_ad y.a.ad x.a.ad HYy.out.ad HXx.out.ad
            have KL := True.intro
            rw [decide_eq_true E2.out] at eq
            refine region_ext (by kernel_rfl) (by kernel_rfl) ?_
            repeat (first
                | (go_big_quiet_want; refine quiet_load_mid 24 _ rfl b (off + k * 27) (aN y.a.ad).toList rfl (fun w2 hw2 => by obtain ⟨g1, rfl⟩ := hw2; exact r0 g1) Try.underlying24 rfl (infoAd _) ?_; simp only [Act.put, List.setIfInBounds_toArray, List.set_cons_succ, List.set_cons_zero, Array.toArray_toList]; go_big_quiet_on)
                | (go_big_quiet_want; refine quiet_load_mid 24 _ rfl w.heap.size 0 (aN x.a.ad).toList rfl (fun w2 hw2 => by obtain ⟨g1, rfl⟩ := hw2; exact r1 g1) Try.underlying24 rfl (infoAd _) ?_; simp only [Act.put, List.setIfInBounds_toArray, List.set_cons_succ, List.set_cons_zero, Array.toArray_toList]; go_big_quiet_on)
                | go_big_quiet_step (fail))
            refine wpQuiet_nil ?_
            rintro w' ⟨gg, rfl⟩
            have bb9 := gg.below
            have HW9 := Lib.hid (HW6.out.trans (bb9.mono HW6.out.size))
            have HO9 := Lib.hid (own_same HO6.out (fun b hb => bb9.block b (HO6.out.lt b hb).2))
            clear r0 r1 KL bb9
            generalize gg.on = w9 at *
            clear eq
            have rl10 := (rng_block (cs := acs x) (stay HW9.out F0.out)).at
            have ba10 : Below w9.heap.size w9 (w9.alloc (.cells (acs x).toArray 46)) := (Below.refl _ _).alloc (Nat.le_refl _) _
            have HA10 := Lib.hid (own_same HO9.out (fun b hb => ba10.block b (HO9.out.lt b hb).2))
            have HQ10 := Lib.hid (rowOne (heap_alloc_new w9 (.cells (acs x).toArray 46)))
            have HC10 := Lib.hid (HW9.out.trans (ba10.mono HW9.out.size))
            have hz10 := HW9.out.size
            clear ba10
            go_wp2_with (first
              | (refine wpList_load_mid rfl 46 _ rfl w.heap.size 0 rfl (acs x) _ rl10 Try.underlying46 rfl (infoAcs _) ?_)
              | (refine append_row rfl _ _ 30 rfl 46 (.agg (acs noneAV).toArray) 27 112 Try.underlying30 infoA27 (by simp [Value.cells, acs_len]) (by decide) (by decide) W.heap.size _ so.length (so.flatMap acs) rfl HA10.out (.slice (some ⟨w9.heap.size, 0, none⟩) 1 1) 1 (acs x) rfl HQ10.out OneX.out (by omega) (by simp; omega) ?_
                 intro v10 w10 ho10 hg10 hl10
                 have HO10 := Lib.hid ho10
                 have HW10 : Hid (Below W.heap.size W w10) := Lib.hid (HC10.out.grown hg10 (by simp; omega) (fun k hk => (HA10.out.lt k hk).1))
                 obtain ⟨A10, c10, rfl⟩ := own_sl ho10
                 clear ho10 hg10 hl10 rl10))
            have e2 := E2.out
            exact ⟨⟨k + 1, by omega, by go_num, by rw [HStep.out]; simp [pstep, *], Lib.hid (by rw [HStep.out]; simpa [pstep, *] using HO10.out), HW10⟩, by simp [intOf]; omega⟩
          · skip
            have E2 := Lib.hid e2
            clear e2
            refine region_ext (by kernel_rfl) (by kernel_rfl) ?_
            repeat (first
                | (go_big_quiet_want; refine quiet_load_mid 24 _ rfl b (off + k * 27) (aN y.a.ad).toList rfl (fun w2 hw2 => by obtain ⟨g1, rfl⟩ := hw2; exact r0 g1) Try.underlying24 rfl (infoAd _) ?_; simp only [Act.put, List.setIfInBounds_toArray, List.set_cons_succ, List.set_cons_zero, Array.toArray_toList]; go_big_quiet_on)
                | (go_big_quiet_want; refine quiet_load_mid 24 _ rfl w.heap.size 0 (aN x.a.ad).toList rfl (fun w2 hw2 => by obtain ⟨g1, rfl⟩ := hw2; exact r1 g1) Try.underlying24 rfl (infoAd _) ?_; simp only [Act.put, List.setIfInBounds_toArray, List.set_cons_succ, List.set_cons_zero, Array.toArray_toList]; go_big_quiet_on)
                | go_big_quiet_step (first | (go_at_call 41; with_reducible exact calls_ext (KL.out _))))
            refine wpQuiet_nil ?_
            rintro w' ⟨gg, rfl⟩
            have bb6 := gg.below
            have HW6 := Lib.hid (HW.out.trans (bb6.mono HW.out.size))
            have HO6 := Lib.hid (own_same HO.out (fun b hb => bb6.block b (HO.out.lt b hb).2))
            clear r0 r1 KL bb6
            generalize gg.on = w6 at *
            have hk1 := hk
            go_upto_region 9 with fail
            have BW6 : Hid (Below w.heap.size w w6) := Lib.hid (HB.out.trans (HW6.out.mono HB.out.size))
            have r0 := fun g : Ext w6 => (acs_rng (HRg.out.sub (hp_below (BW6.out.trans (g.below.mono BW6.out.size))))).at
            have r1 := fun g : Ext w6 => (acs_rng (rng_block (cs := acs x) (g.block (stay HW6.out F0.out)))).at
            have eq := eq_ad y.a.ad x.a.ad HYy.out.ad HXx.out.ad
            have KL := True.intro
            rw [decide_eq_false E2.out] at eq
            refine region_ext (by kernel_rfl) (by kernel_rfl) ?_
            repeat (first
                | (go_big_quiet_want; refine quiet_load_mid 24 _ rfl b (off + k * 27) (aN y.a.ad).toList rfl (fun w2 hw2 => by obtain ⟨g1, rfl⟩ := hw2; exact r0 g1) Try.underlying24 rfl (infoAd _) ?_; simp only [Act.put, List.setIfInBounds_toArray, List.set_cons_succ, List.set_cons_zero, Array.toArray_toList]; go_big_quiet_on)
                | (go_big_quiet_want; refine quiet_load_mid 24 _ rfl w.heap.size 0 (aN x.a.ad).toList rfl (fun w2 hw2 => by obtain ⟨g1, rfl⟩ := hw2; exact r1 g1) Try.underlying24 rfl (infoAd _) ?_; simp only [Act.put, List.setIfInBounds_toArray, List.set_cons_succ, List.set_cons_zero, Array.toArray_toList]; go_big_quiet_on)
                | go_big_quiet_step (fail))
            refine wpQuiet_nil ?_
            rintro w' ⟨gg, rfl⟩
            have bb9 := gg.below
            have HW9 := Lib.hid (HW6.out.trans (bb9.mono HW6.out.size))
            have HO9 := Lib.hid (own_same HO6.out (fun b hb => bb9.block b (HO6.out.lt b hb).2))
            clear r0 r1 KL bb9
            generalize gg.on = w9 at *
            clear eq
            have rl10 := (HRg.out.sub (hp_below (HB.out.trans (HW9.out.mono HB.out.size)))).at
            have ba10 : Below w9.heap.size w9 (w9.alloc (.cells (acs y).toArray 46)) := (Below.refl _ _).alloc (Nat.le_refl _) _
            have HA10 := Lib.hid (own_same HO9.out (fun b hb => ba10.block b (HO9.out.lt b hb).2))
            have HQ10 := Lib.hid (rowOne (heap_alloc_new w9 (.cells (acs y).toArray 46)))
            have HC10 := Lib.hid (HW9.out.trans (ba10.mono HW9.out.size))
            have hz10 := HW9.out.size
            clear ba10
            go_wp2_with (first
              | (refine wpList_load_mid rfl 46 _ rfl b _ rfl (acs y) _ rl10 Try.underlying46 rfl (infoAcs _) ?_)
              | (refine append_row rfl _ _ 30 rfl 46 (.agg (acs noneAV).toArray) 27 112 Try.underlying30 infoA27 (by simp [Value.cells, acs_len]) (by decide) (by decide) W.heap.size _ so.length (so.flatMap acs) rfl HA10.out (.slice (some ⟨w9.heap.size, 0, none⟩) 1 1) 1 (acs y) rfl HQ10.out OneY.out (by omega) (by simp; omega) ?_
                 intro v10 w10 ho10 hg10 hl10
                 have HO10 := Lib.hid ho10
                 have HW10 : Hid (Below W.heap.size W w10) := Lib.hid (HC10.out.grown hg10 (by simp; omega) (fun k hk => (HA10.out.lt k hk).1))
                 obtain ⟨A10, c10, rfl⟩ := own_sl ho10
                 clear ho10 hg10 hl10 rl10))
            have e2 := E2.out
            exact ⟨⟨k + 1, by omega, by go_num, by rw [HStep.out]; simp [pstep, *], Lib.hid (by rw [HStep.out]; simpa [pstep, *] using HO10.out), HW10⟩, by simp [intOf]; omega⟩
      · by_cases e2 : y.a.ad = x.a.ad
        · skip
          have E2 := Lib.hid e2
          clear e2
          refine region_ext (by kernel_rfl) (by kernel_rfl) ?_
          repeat (first
              | (go_big_quiet_want; refine quiet_load_mid 24 _ rfl b (off + k * 27) (aN y.a.ad).toList rfl (fun w2 hw2 => by obtain ⟨g1, rfl⟩ := hw2; exact r0 g1) Try.underlying24 rfl (infoAd _) ?_; simp only [Act.put, List.setIfInBounds_toArray, List.set_cons_succ, List.set_cons_zero, Array.toArray_toList]; go_big_quiet_on)
              | (go_big_quiet_want; refine quiet_load_mid 24 _ rfl w.heap.size 0 (aN x.a.ad).toList rfl (fun w2 hw2 => by obtain ⟨g1, rfl⟩ := hw2; exact r1 g1) Try.underlying24 rfl (infoAd _) ?_; simp only [Act.put, List.setIfInBounds_toArray, List.set_cons_succ, List.set_cons_zero, Array.toArray_toList]; go_big_quiet_on)
              | go_big_quiet_step (first | (go_at_call 41; with_reducible exact calls_ext (KL.out _))))
          refine wpQuiet_nil ?_
          rintro w' ⟨gg, rfl⟩
          have bb6 := gg.below
          have HW6 := Lib.hid (HW.out.trans (bb6.mono HW.out.size))
          have HO6 := Lib.hid (own_same HO.out (fun b hb => bb6.block b (HO.out.lt b hb).2))
          clear r0 r1 KL bb6
          generalize gg.on = w6 at *
          have hk1 := hk
          go_upto_region 9 with fail
          have BW6 : Hid (Below w.heap.size w w6) := Lib.hid (HB.out.trans (HW6.out.mono HB.out.size))
          have r0 := fun g : Ext w6 => (acs_rng (HRg.out.sub (hp_below (BW6.out.trans (g.below.mono BW6.out.size))))).at
          have r1 := fun g : Ext w6 => (acs_rng (rng_block (cs := acs x) (g.block (stay HW6.out F0.out)))).at
          have eq := eq_ad y.a.ad x.a.ad HYy.out.ad HXx.out.ad
          have KL := True.intro
          rw [decide_eq_true E2.out] at eq
          refine region_ext (by kernel_rfl) (by kernel_rfl) ?_
          repeat (first
              | (go_big_quiet_want; refine quiet_load_mid 24 _ rfl b (off + k * 27) (aN y.a.ad).toList rfl (fun w2 hw2 => by obtain ⟨g1, rfl⟩ := hw2; exact r0 g1) Try.underlying24 rfl (infoAd _) ?_; simp only [Act.put, List.setIfInBounds_toArray, List.set_cons_succ, List.set_cons_zero, Array.toArray_toList]; go_big_quiet_on)
              | (go_big_quiet_want; refine quiet_load_mid 24 _ rfl w.heap.size 0 (aN x.a.ad).toList rfl (fun w2 hw2 => by obtain ⟨g1, rfl⟩ := hw2; exact r1 g1) Try.underlying24 rfl (infoAd _) ?_; simp only [Act.put, List.setIfInBounds_toArray, List.set_cons_succ, List.set_cons_zero, Array.toArray_toList]; go_big_quiet_on)
              | go_big_quiet_step (fail))
          refine wpQuiet_nil ?_
          rintro w' ⟨gg, rfl⟩
          have bb9 := gg.below
          have HW9 := Lib.hid (HW6.out.trans (bb9.mono HW6.out.size))
          have HO9 := Lib.hid (own_same HO6.out (fun b hb => bb9.block b (HO6.out.lt b hb).2))
          clear r0 r1 KL bb9
          generalize gg.on = w9 at *
          clear eq
          have rl10 := (rng_block (cs := acs x) (stay HW9.out F0.out)).at
          have ba10 : Below w9.heap.size w9 (w9.alloc (.cells (acs x).toArray 46)) := (Below.refl _ _).alloc (Nat.le_refl _) _
          have HA10 := Lib.hid (own_same HO9.out (fun b hb => ba10.block b (HO9.out.lt b hb).2))
          have HQ10 := Lib.hid (rowOne (heap_alloc_new w9 (.cells (acs x).toArray 46)))
          have HC10 := Lib.hid (HW9.out.trans (ba10.mono HW9.out.size))
          have hz10 := HW9.out.size
          clear ba10
          go_wp2_with (first
            | (refine wpList_load_mid rfl 46 _ rfl w.heap.size 0 rfl (acs x) _ rl10 Try.underlying46 rfl (infoAcs _) ?_)
            | (refine append_row rfl _ _ 30 rfl 46 (.agg (acs noneAV).toArray) 27 112 Try.underlying30 infoA27 (by simp [Value.cells, acs_len]) (by decide) (by decide) W.heap.size _ so.length (so.flatMap acs) rfl HA10.out (.slice (some ⟨w9.heap.size, 0, none⟩) 1 1) 1 (acs x) rfl HQ10.out OneX.out (by omega) (by simp; omega) ?_
               intro v10 w10 ho10 hg10 hl10
               have HO10 := Lib.hid ho10
               have HW10 : Hid (Below W.heap.size W w10) := Lib.hid (HC10.out.grown hg10 (by simp; omega) (fun k hk => (HA10.out.lt k hk).1))
               obtain ⟨A10, c10, rfl⟩ := own_sl ho10
               clear ho10 hg10 hl10 rl10))
          have e2 := E2.out
          exact ⟨⟨k + 1, by omega, by go_num, by rw [HStep.out]; simp [pstep, *], Lib.hid (by rw [HStep.out]; simpa [pstep, *] using HO10.out), HW10⟩, by simp [intOf]; omega⟩
        · skip
          have E2 := Lib.hid e2
          clear e2
          refine region_ext (by kernel_rfl) (by kernel_rfl) ?_
          repeat (first
              | (go_big_quiet_want; refine quiet_load_mid 24 _ rfl b (off + k * 27) (aN y.a.ad).toList rfl (fun w2 hw2 => by obtain ⟨g1, rfl⟩ := hw2; exact r0 g1) Try.underlying24 rfl (infoAd _) ?_; simp only [Act.put, List.setIfInBounds_toArray, List.set_cons_succ, List.set_cons_zero, Array.toArray_toList]; go_big_quiet_on)
              | (go_big_quiet_want; refine quiet_load_mid 24 _ rfl w.heap.size 0 (aN x.a.ad).toList rfl (fun w2 hw2 => by obtain ⟨g1, rfl⟩ := hw2; exact r1 g1) Try.underlying24 rfl (infoAd _) ?_; simp only [Act.put, List.setIfInBounds_toArray, List.set_cons_succ, List.set_cons_zero, Array.toArray_toList]; go_big_quiet_on)
              | go_big_quiet_step (first | (go_at_call 41; with_reducible exact calls_ext (KL.out _))))
          refine wpQuiet_nil ?_
          rintro w' ⟨gg, rfl⟩
          have bb6 := gg.below
          have HW6 := Lib.hid (HW.out.trans (bb6.mono HW.out.size))
          have HO6 := Lib.hid (own_same HO.out (fun b hb => bb6.block b (HO.out.lt b hb).2))
          clear r0 r1 KL bb6
          generalize gg.on = w6 at *
          have hk1 := hk
          go_upto_region 9 with fail
          have BW6 : Hid (Below w.heap.size w w6) := Lib.hid (HB.out.trans (HW6.out.mono HB.out.size))
          have r0 := fun g : Ext w6 => (acs_rng (HRg.out.sub (hp_below (BW6.out.trans (g.below.mono BW6.out.size))))).at
          have r1 := fun g : Ext w6 => (acs_rng (rng_block (cs := acs x) (g.block (stay HW6.out F0.out)))).at
          have eq := eq_ad y.a.ad x.a.ad HYy.out.ad HXx.out.ad
          have KL := True.intro
          rw [decide_eq_false E2.out] at eq
          refine region_ext (by kernel_rfl) (by kernel_rfl) ?_
          repeat (first
              | (go_big_quiet_want; refine quiet_load_mid 24 _ rfl b (off + k * 27) (aN y.a.ad).toList rfl (fun w2 hw2 => by obtain ⟨g1, rfl⟩ := hw2; exact r0 g1) Try.underlying24 rfl (infoAd _) ?_; simp only [Act.put, List.setIfInBounds_toArray, List.set_cons_succ, List.set_cons_zero, Array.toArray_toList]; go_big_quiet_on)
              | (go_big_quiet_want; refine quiet_load_mid 24 _ rfl w.heap.size 0 (aN x.a.ad).toList rfl (fun w2 hw2 => by obtain ⟨g1, rfl⟩ := hw2; exact r1 g1) Try.underlying24 rfl (infoAd _) ?_; simp only [Act.put, List.setIfInBounds_toArray, List.set_cons_succ, List.set_cons_zero, Array.toArray_toList]; go_big_quiet_on)
              | go_big_quiet_step (fail))
          refine wpQuiet_nil ?_
          rintro w' ⟨gg, rfl⟩
          have bb9 := gg.below
          have HW9 := Lib.hid (HW6.out.trans (bb9.mono HW6.out.size))
          have HO9 := Lib.hid (own_same HO6.out (fun b hb => bb9.block b (HO6.out.lt b hb).2))
          clear r0 r1 KL bb9
          generalize gg.on = w9 at *
          clear eq
          have rl10 := (HRg.out.sub (hp_below (HB.out.trans (HW9.out.mono HB.out.size)))).at
          have ba10 : Below w9.heap.size w9 (w9.alloc (.cells (acs y).toArray 46)) := (Below.refl _ _).alloc (Nat.le_refl _) _
          have HA10 := Lib.hid (own_same HO9.out (fun b hb => ba10.block b (HO9.out.lt b hb).2))
          have HQ10 := Lib.hid (rowOne (heap_alloc_new w9 (.cells (acs y).toArray 46)))
          have HC10 := Lib.hid (HW9.out.trans (ba10.mono HW9.out.size))
          have hz10 := HW9.out.size
          clear ba10
          go_wp2_with (first
            | (refine wpList_load_mid rfl 46 _ rfl b _ rfl (acs y) _ rl10 Try.underlying46 rfl (infoAcs _) ?_)
            | (refine append_row rfl _ _ 30 rfl 46 (.agg (acs noneAV).toArray) 27 112 Try.underlying30 infoA27 (by simp [Value.cells, acs_len]) (by decide) (by decide) W.heap.size _ so.length (so.flatMap acs) rfl HA10.out (.slice (some ⟨w9.heap.size, 0, none⟩) 1 1) 1 (acs y) rfl HQ10.out OneY.out (by omega) (by simp; omega) ?_
               intro v10 w10 ho10 hg10 hl10
               have HO10 := Lib.hid ho10
               have HW10 : Hid (Below W.heap.size W w10) := Lib.hid (HC10.out.grown hg10 (by simp; omega) (fun k hk => (HA10.out.lt k hk).1))
               obtain ⟨A10, c10, rfl⟩ := own_sl ho10
               clear ho10 hg10 hl10 rl10))
          have e2 := E2.out
          exact ⟨⟨k + 1, by omega, by go_num, by rw [HStep.out]; simp [pstep, *], Lib.hid (by rw [HStep.out]; simpa [pstep, *] using HO10.out), HW10⟩, by simp [intOf]; omega⟩
    · obtain rfl : k = n := by omega
      have heq : l.take k = l := List.take_of_length_le (by rw [HN.out]; exact Nat.le_refl _)
      rw [heq] at HO ⊢
      clear heq
      have HWr := HW
      have hlen : (pfold x l).1.length ≤ 2000000 := by have := pfold_len x l; rw [HN.out] at this; omega
      generalize hst : pfold x l = st at *
      have HST := Lib.hid hst
      clear hst
      obtain ⟨so, sd⟩ := st
      simp only at hlen HO ⊢
      have HOr := HO
      cases sd
      · skip
        have rl11 := (rng_block (cs := acs x) (stay HWr.out F0.out)).at
        have ba11 : Below wr.heap.size wr (wr.alloc (.cells (acs x).toArray 46)) := (Below.refl _ _).alloc (Nat.le_refl _) _
        have HA11 := Lib.hid (own_same HOr.out (fun b hb => ba11.block b (HOr.out.lt b hb).2))
        have HQ11 := Lib.hid (rowOne (heap_alloc_new wr (.cells (acs x).toArray 46)))
        have HC11 := Lib.hid (HWr.out.trans (ba11.mono HWr.out.size))
        have hz11 := HWr.out.size
        clear ba11
        go_wp2_with (first
          | (refine wpList_load_mid rfl 46 _ rfl w.heap.size 0 rfl (acs x) _ rl11 Try.underlying46 rfl (infoAcs _) ?_)
          | (refine append_row rfl _ _ 30 rfl 46 (.agg (acs noneAV).toArray) 27 112 Try.underlying30 infoA27 (by simp [Value.cells, acs_len]) (by decide) (by decide) W.heap.size _ so.length (so.flatMap acs) rfl HA11.out (.slice (some ⟨wr.heap.size, 0, none⟩) 1 1) 1 (acs x) rfl HQ11.out OneX.out (by omega) (by simp; omega) ?_
             intro v11 w11 ho11 hg11 hl11
             have HO11 := Lib.hid ho11
             have HW11 : Hid (Below W.heap.size W w11) := Lib.hid (HC11.out.grown hg11 (by simp; omega) (fun k hk => (HA11.out.lt k hk).1))
             obtain ⟨A11, c11, rfl⟩ := own_sl ho11
             clear ho11 hg11 hl11 rl11))
        go_ret
        exact ⟨_, rfl, own_base (b1 := W.heap.size) (by rw [HST.out]; simpa [pdone] using HO11.out) (by omega), HB.out.trans (HW11.out.mono HB.out.size)⟩
      · go_wp2_with fail
        go_ret
        exact ⟨_, rfl, own_base (b1 := W.heap.size) (by rw [HST.out]; simpa [pdone] using HO.out) (by omega), BW.out⟩
end Go.Proofs.Ytpkoiifidlnbeaa
