/- What the function Constants of the document's answers for sha does: the constants of the rounds, and the first eight numbers, by roots of primes. -/
import Derived.Test.YtnnodibjocilmaaDoorShI
import Derived.Deep.CutRange
namespace Go.Proofs.YtnnodibjocilmaaDoor
open Go.RowKit SmWord
set_option maxRecDepth 100000

/-- What is made behind i primes. -/
def kt (f : Nat → Nat) (i j : Nat) : Nat := if j < i then f j else 0
theorem kt_start (f : Nat → Nat) : ka (kt f 0) = zK := ka_congr fun i _ => by simp [kt]
theorem kt_startV (f : Nat → Nat) : va (kt f 0) = zV := va_congr fun i _ => by simp [kt]
theorem kt_end (f : Nat → Nat) : ka (kt f 64) = ka f := ka_congr fun i hi => by simp [kt, hi]
theorem kt_endV (f : Nat → Nat) {i : Nat} (h : 8 ≤ i) : va (kt f i) = va f := va_congr fun j hj => by rw [kt, if_pos (by omega)]
theorem kt_next (f : Nat → Nat) {i : Nat} (h : i < 64) : (ka (kt f i)).setIfInBounds i (.int .u32 ((f i : Nat) : Int)) = ka (kt f (i + 1)) := by
  rw [ka_set h]
  refine ka_congr fun j _ => ?_
  unfold kt
  by_cases e : j = i
  · subst e; simp
  · by_cases l : j < i
    · simp [e, l, show j < i + 1 by omega]
    · simp [e, l, show ¬ j < i + 1 by omega]
theorem kt_nextV (f : Nat → Nat) {i : Nat} (h : i < 8) : (va (kt f i)).setIfInBounds i (.int .u32 ((f i : Nat) : Int)) = va (kt f (i + 1)) := by
  rw [va_set h]
  refine va_congr fun j _ => ?_
  unfold kt
  by_cases e : j = i
  · subst e; simp
  · by_cases l : j < i
    · simp [e, l, show j < i + 1 by omega]
    · simp [e, l, show ¬ j < i + 1 by omega]
theorem prs_lt : ∀ i, i < 64 → prs.getD i 0 < 1000 := by decide
theorem ul_get {i : Nat} (h : i < 64) : (ul prs)[i]? = some (.int .u64 ((prs.getD i 0 : Nat) : Int)) := by
  have hl : i < prs.length := by simpa [prs] using h
  simp [ul, List.getD, List.getElem?_eq_getElem hl]
/-- The primes' row in memory. -/
theorem own_primes {w : World} {base : Nat} {v : Value} (h : w.ownsRow base 38 1 v 64 (ul prs)) : ∃ b c o, v = .slice (some ⟨b, 0, none⟩) 64 c ∧ b < w.heap.size ∧ w.heap[b]? = some o ∧ ∀ w' : World, w'.heap[b]? = some o → ∀ i, i < 64 → w'.cell? ⟨b, i, none⟩ = some (.int .u64 ((prs.getD i 0 : Nat) : Int)) := by
  rcases h.2 with ⟨_, h⟩ | ⟨g, cap, cur, rfl, hb, hg, h1, h2, h3, h4⟩
  · omega
  · refine ⟨g, cap, _, rfl, (Array.getElem?_eq_some_iff.1 hg).1, hg, fun w' hw' i hi => ?_⟩
    refine blk_cell hw' ?_
    have := ul_get hi
    rw [← h4, List.getElem?_take, if_pos (by omega)] at this
    simpa using this
section
variable {P : Program} {md : Region.Mode} {ops : Array Oper} {Q : Exit → Act → World → Prop} {listed : Array Bool} {a : Act} {w : World} {o : Oper} {K : Act → World → Prop}
theorem any_one {fuel : Nat} (i : Nat) (hr : Region.ready md ops listed = [i]) (h : wpOp P ops Q i (wpAny P md ops Q fuel (listed.setIfInBounds i true)) a w) : wpAny P md ops Q (fuel + 1) listed a w :=
  ⟨(fun h0 => by rw [hr] at h0; cases h0), fun k hk => by rw [hr] at hk; cases List.mem_singleton.1 hk; exact h⟩
theorem any_two {fuel : Nat} (i j : Nat) (hr : Region.ready md ops listed = [i, j]) (h : wpOp P ops Q i (wpAny P md ops Q fuel (listed.setIfInBounds i true)) a w) (h' : wpOp P ops Q j (wpAny P md ops Q fuel (listed.setIfInBounds j true)) a w) : wpAny P md ops Q (fuel + 1) listed a w :=
  ⟨(fun h0 => by rw [hr] at h0; cases h0), fun k hk => by
    rw [hr] at hk
    rcases List.mem_cons.1 hk with rfl | hk
    · exact h
    · cases List.mem_singleton.1 hk; exact h'⟩
theorem any_end (hr : Region.ready md ops listed = []) (h : Q .normal a w) : wpAny P md ops Q 0 listed a w := ⟨hr, h⟩
theorem op_load_row {i : Nat} (hi : ops[i]? = some o) (dd : Option Tmp) (hdst : o.dst = dd) (hgd : o.guard = none) (ty : TypeId) (x : Operand) (ho : o.op = .load ty x)
    (g : Nat) (hx : a.eval x = .pointer (some ⟨g, 0, none⟩)) (t : TypeId) (cs : Array Value) (fr : Nat × Nat) (d : TypeDesc) (hg : w.heap[g]? = some (.cells cs t fr))
    (hu : P.underlying ty = some d) (hd : (match d with | .struct _ | .array _ _ => true | _ => false) = true) (hs : (P.info? ty).map (·.size) = some cs.size)
    (h : K (a.put dd (.agg cs)) w) : wpOp P ops Q i K a w := by
  subst hdst
  unfold wpOp
  simp only [hi, Region.wanted, hgd, if_true]
  exact .inl (wp_load_row ty x ho g hx t cs fr d hg hu hd hs h)
theorem op_store_row {i : Nat} (hi : ops[i]? = some o) (dd : Option Tmp) (hdst : o.dst = dd) (hgd : o.guard = none) (t : TypeId) (p x : Operand) (ho : o.op = .store t p x) (b : Nat) (z c : Array Value) (hp : a.eval p = .pointer (some ⟨b, 0, none⟩)) (hx : a.eval x = .agg c) (hb : w.heap[b]? = some (.cells z t))
    (hs : (P.info? t).map (·.size) = some c.size) (hz : z.size = c.size) (h1 : c.all (·.oneCell') = true)
    (h : K (a.put dd undef) (w.setRow b c)) : wpOp P ops Q i K a w := by
  subst hdst
  unfold wpOp
  simp only [hi, Region.wanted, hgd, if_true]
  refine .inl ?_
  unfold Oper.wp
  rw [run_store_row ho hs hz h1 a.eval b w hp hx hb]
  exact h
theorem results_two {fn : Func} {p u : Tmp} {ty ty' : TypeId} (h : fn.results = #[.cell p ty, .cell u ty']) (tmps : Array Value) (w : World) (g g' : Nat) (t t' : TypeId) (cs cs' : Array Value) (fr fr' : Nat × Nat) (d d' : TypeDesc)
    (hp : tmps.getD p undef = .pointer (some ⟨g, 0, none⟩)) (hg : w.heap[g]? = some (.cells cs t fr))
    (hu : P.underlying ty = some d) (hd : (match d with | .struct _ | .array _ _ => true | _ => false) = true) (hi : (P.info? ty).map (·.size) = some cs.size)
    (hp2 : tmps.getD u undef = .pointer (some ⟨g', 0, none⟩)) (hg2 : w.heap[g']? = some (.cells cs' t' fr'))
    (hu2 : P.underlying ty' = some d') (hd2 : (match d' with | .struct _ | .array _ _ => true | _ => false) = true) (hi2 : (P.info? ty').map (·.size) = some cs'.size) :
    (results fn tmps).run P w = .ok (.tuple #[.agg cs, .agg cs']) w := by
  have hp' : tmps[p]?.getD undef = .pointer (some ⟨g, 0, none⟩) := by simpa using hp
  have hp2' : tmps[u]?.getD undef = .pointer (some ⟨g', 0, none⟩) := by simpa using hp2
  simp [results, h, hp', hp2', asAddr, run_loadVar_row w g t ty cs fr d hg hu hd hi, run_loadVar_row w g' t' ty' cs' fr' d' hg2 hu2 hd2 hi2]
end
set_option maxHeartbeats 4000000 in
theorem const_walk (w : World) : Calls Tryd.prog 6 #[] w fun e w' => e = .returned (.tuple #[.agg (ka ck), .agg (va ch0)]) ∧ Below w.heap.size w w' := by
  go_enter Tryd.func6, Tryd.ntmps6
  go_wp2_with (first | (refine wpList_alloc_row rfl 25 rfl zK zK_run ?_) | (refine wpList_alloc_row rfl 26 rfl zV zV_run ?_))
  have f0 : ((w.alloc (.cells zK 25)).alloc (.cells zV 26)).heap[w.heap.size]? = some (.cells zK 25) := blk_alloc (heap_alloc_new _ _)
  have f1 : ((w.alloc (.cells zK 25)).alloc (.cells zV 26)).heap[w.heap.size + 1]? = some (.cells zV 26) := heap_alloc2_new _ _ _
  have bW : Below w.heap.size w ((w.alloc (.cells zK 25)).alloc (.cells zV 26)) := ((Below.refl _ _).alloc (Nat.le_refl _) _).alloc (by simp) _
  generalize ((w.alloc (.cells zK 25)).alloc (.cells zV 26)) = W at *
  refine (primes_ref W).mono ?_
  rintro e w1 ⟨v, rfl, hown, b1⟩
  obtain ⟨pb, pc, po, rfl, hpb, hpo, hcell⟩ := own_primes hown
  have F0 := Lib.hid (stay b1 f0)
  have F1 := Lib.hid (stay b1 f1)
  have HB := Lib.hid (bW.trans (b1.mono bW.size))
  have hl1 : w.heap.size + 1 < w1.heap.size := (Array.getElem?_eq_some_iff.1 F1.out).1
  have HC := Lib.hid hcell
  have PO := Lib.hid hpo
  clear hown b1 bW f0 f1 hcell hpo
  have a0 : ((w1.alloc (.cells zK 25)).setRow w1.heap.size zK).heap[w1.heap.size]? = some (.cells zK 25) := blk_row (heap_alloc_new _ _)
  go_upto_region 3 with (first | (refine wpList_alloc_row rfl 25 rfl zK zK_run ?_) | (refine wpList_build_zero rfl 25 rfl Tryd.underlying25 Tryd.sizeOf24 zK zK_run ?_) | (refine wpList_store_row rfl 25 _ _ rfl _ zK zK rfl rfl (heap_alloc_new _ _) (infoArrK _) rfl (arr_one _ _ _) ?_))
  replace F0 := Lib.hid (blk_row_other (b := w1.heap.size) (c' := zK) (blk_alloc (o' := .cells zK 25) F0.out) (by omega))
  replace F1 := Lib.hid (blk_row_other (b := w1.heap.size) (c' := zK) (blk_alloc (o' := .cells zK 25) F1.out) (by omega))
  replace PO := Lib.hid (blk_row_other (b := w1.heap.size) (c' := zK) (blk_alloc (o' := .cells zK 25) PO.out) (by omega))
  replace HB := Lib.hid (below_setRow (HB.out.alloc HB.out.size (.cells zK 25)) HB.out.size zK)
  have hsz : ((w1.alloc (.cells zK 25)).setRow w1.heap.size zK).heap.size = w1.heap.size + 1 := by simp [World.setRow]
  obtain ⟨kb, hkb⟩ : ∃ kb, w1.heap.size = kb := ⟨_, rfl⟩
  rw [hkb] at a0 F0 F1 PO HB hsz hl1 hpb ⊢
  generalize (w1.alloc (.cells zK 25)).setRow kb zK = w2 at *
  have KB := Lib.hid a0
  clear a0 hkb
  have a0 : ((w2.alloc (.cells zV 26)).setRow w2.heap.size zV).heap[w2.heap.size]? = some (.cells zV 26) := blk_row (heap_alloc_new _ _)
  go_wp2_with (first | (refine wpList_alloc_row rfl 26 rfl zV zV_run ?_) | (refine wpList_build_zero rfl 26 rfl Tryd.underlying26 Tryd.sizeOf24 zV zV_run ?_) | (refine wpList_store_row rfl 26 _ _ rfl _ zV zV rfl rfl (heap_alloc_new _ _) (infoArrV _) rfl (arr_one _ _ _) ?_))
  rw [hsz] at a0
  have KV := Lib.hid a0
  have hvb : kb + 1 = w2.heap.size := hsz.symm
  replace F0 := Lib.hid (blk_row_other (b := kb + 1) (c' := zV) (blk_alloc (o' := .cells zV 26) F0.out) (by omega))
  replace F1 := Lib.hid (blk_row_other (b := kb + 1) (c' := zV) (blk_alloc (o' := .cells zV 26) F1.out) (by omega))
  replace PO := Lib.hid (blk_row_other (b := kb + 1) (c' := zV) (blk_alloc (o' := .cells zV 26) PO.out) (by omega))
  replace KB := Lib.hid (blk_row_other (b := kb + 1) (c' := zV) (blk_alloc (o' := .cells zV 26) KB.out) (by omega))
  replace HB := Lib.hid (below_setRow (HB.out.alloc HB.out.size (.cells zV 26)) (b := kb + 1) (by omega) zV)
  clear a0 hvb
  generalize (w2.alloc (.cells zV 26)).setRow (kb + 1) zV = w3 at *
  rw [← kt_start ck] at KB
  rw [← kt_startV ch0] at KV
  go_loopw [5] (fun i wr => ∃ k : Nat, k ≤ 64 ∧ i = .int .i64 k ∧ Hid (Below w.heap.size w wr) ∧ Hid (wr.heap[w.heap.size]? = some (.cells zK 25)) ∧ Hid (wr.heap[w.heap.size + 1]? = some (.cells zV 26)) ∧ Hid (wr.heap[pb]? = some po) ∧ Hid (wr.heap[kb]? = some (.cells (ka (kt ck k)) 25)) ∧ Hid (wr.heap[kb + 1]? = some (.cells (va (kt ch0 k)) 26))) (fun i _ => 64 - (intOf i).toNat)
  case atStart => exact ⟨0, by omega, rfl, HB, F0, F1, PO, KB, KV⟩
  case round =>
    clear HB F0 F1 PO KB KV hsz
    obtain ⟨k, hk, rfl, HB, F0, F1, PO, KB, KV⟩ := hrel
    by_cases hlt : k < 64
    · obtain ⟨p, hp⟩ : ∃ p, prs.getD k 0 = p := ⟨_, rfl⟩
      have hp1 : p < 1000 := by rw [← hp]; exact prs_lt k hlt
      have hpB : p < B := by simp only [B]; omega
      have cp := HC.out wr PO.out k hlt
      have hck := roots_cube k hlt
      rw [hp] at cp hck
      have HCK := Lib.hid hck
      have HP := Lib.hid hp
      clear hck hp
      go_wp2_with fail
      clear cp
      refine (root_cube p wr hpB).mono ?_
      rintro e w4 ⟨rfl, b4⟩
      rw [HCK.out]
      replace HB := Lib.hid (HB.out.trans (b4.mono HB.out.size))
      replace F0 := Lib.hid (stay b4 F0.out)
      replace F1 := Lib.hid (stay b4 F1.out)
      replace PO := Lib.hid (stay b4 PO.out)
      replace KB := Lib.hid (stay b4 KB.out)
      replace KV := Lib.hid (stay b4 KV.out)
      clear b4
      have cx := blk_cell KB.out (ka_get (S := kt ck k) hlt)
      have fz := blk_frozen (j := k) KB.out
      have h4 : (w4.setCell ⟨kb, k, none⟩ (.int .u32 ((ck k : Nat) : Int))).heap[kb]? = _ := blk_set KB.out _
      rw [kt_next ck hlt] at h4
      have KB5 := Lib.hid h4
      clear h4 KB
      go_upto_region 8 with fail
      replace HB := Lib.hid (HB.out.setCell (p := ⟨kb, k, none⟩) (by simp; omega) (.int .u32 ((ck k : Nat) : Int)))
      replace F0 := Lib.hid (blk_other (b := kb) (j := k) F0.out (by omega) (.int .u32 ((ck k : Nat) : Int)))
      replace F1 := Lib.hid (blk_other (b := kb) (j := k) F1.out (by omega) (.int .u32 ((ck k : Nat) : Int)))
      replace PO := Lib.hid (blk_other (b := kb) (j := k) PO.out (by omega) (.int .u32 ((ck k : Nat) : Int)))
      replace KV := Lib.hid (blk_other (b := kb) (j := k) KV.out (by omega) (.int .u32 ((ck k : Nat) : Int)))
      clear cx fz
      generalize w4.setCell ⟨kb, k, none⟩ (.int .u32 ((ck k : Nat) : Int)) = w5 at *
      by_cases h8 : k < 8
      · have cp := HC.out w5 PO.out k hlt
        have hch := roots_square k h8
        rw [HP.out] at cp hch
        have HCH := Lib.hid hch
        clear hch
        go_wp2_with fail
        clear cp
        refine (root_square p w5 hpB).mono ?_
        rintro e w6 ⟨rfl, b6⟩
        rw [HCH.out]
        replace HB := Lib.hid (HB.out.trans (b6.mono HB.out.size))
        replace F0 := Lib.hid (stay b6 F0.out)
        replace F1 := Lib.hid (stay b6 F1.out)
        replace PO := Lib.hid (stay b6 PO.out)
        replace KB5 := Lib.hid (stay b6 KB5.out)
        replace KV := Lib.hid (stay b6 KV.out)
        clear b6
        have cx := blk_cell KV.out (va_get (S := kt ch0 k) h8)
        have fz := blk_frozen (j := k) KV.out
        have h4 : (w6.setCell ⟨kb + 1, k, none⟩ (.int .u32 ((ch0 k : Nat) : Int))).heap[kb + 1]? = _ := blk_set KV.out _
        rw [kt_nextV ch0 h8] at h4
        have KV5 := Lib.hid h4
        clear h4 KV
        go_wp2_with fail
        exact ⟨⟨k + 1, by omega, by go_num, Lib.hid (HB.out.setCell (by simp; omega) _), Lib.hid (blk_other F0.out (by omega) _), Lib.hid (blk_other F1.out (by omega) _), Lib.hid (blk_other PO.out (by omega) _), Lib.hid (blk_other KB5.out (by omega) _), KV5⟩, by simp [intOf]; omega⟩
      · go_wp2_with fail
        exact ⟨⟨k + 1, by omega, by go_num, HB, F0, F1, PO, KB5, by rw [kt_endV ch0 (i := k + 1) (by omega), ← kt_endV ch0 (i := k) (by omega)]; exact KV⟩, by simp [intOf]; omega⟩
    · obtain rfl : k = 64 := by omega
      rw [kt_end] at KB
      rw [kt_endV ch0 (by decide)] at KV
      clear PO HC hpb
      go_wp2_with fail
      refine wp_region_any (by kernel_rfl) ?_
      have hb : Below w.heap.size w wr.drew := HB.out.drew
      have k0 : wr.drew.heap[kb]? = _ := KB.out
      have k1 : wr.drew.heap[kb + 1]? = _ := KV.out
      have r0 : wr.drew.heap[w.heap.size]? = _ := F0.out
      have r1 : wr.drew.heap[w.heap.size + 1]? = _ := F1.out
      change wpAny _ _ _ _ (0 + 1 + 1 + 1 + 1) #[false, false, false, false] _ wr.drew
      generalize wr.drew = W0 at *
      have r3 := blk_row_other (w := W0) (b := w.heap.size) (c' := ka ck) r1 (by omega)
      have k3 := blk_row_other (w := W0) (b := w.heap.size) (c' := ka ck) k1 (by omega)
      have e0 := blk_row_other (b := w.heap.size + 1) (c' := va ch0) (blk_row (w := W0) (c' := ka ck) r0) (by omega)
      have e1 := blk_row (c' := va ch0) r3
      refine any_two 0 1 (by kernel_rfl) ?_ ?_
      · refine op_load_row rfl (some 29) rfl rfl 25 _ rfl kb rfl 25 (ka ck) (0, 0) _ k0 Tryd.underlying25 rfl (infoArrK _) ?_
        refine any_two 1 2 (by kernel_rfl) ?_ ?_
        · refine op_load_row rfl (some 30) rfl rfl 26 _ rfl (kb + 1) rfl 26 (va ch0) (0, 0) _ k1 Tryd.underlying26 rfl (infoArrV _) ?_
          refine any_one 2 (by kernel_rfl) ?_
          refine op_store_row rfl none rfl rfl 25 _ _ rfl _ zK (ka ck) rfl rfl r0 (infoArrK _) rfl (arr_one _ _ _) ?_
          refine any_one 3 (by kernel_rfl) ?_
          refine op_store_row rfl none rfl rfl 26 _ _ rfl _ zV (va ch0) rfl rfl r3 (infoArrV _) rfl (arr_one _ _ _) ?_
          refine any_end (by kernel_rfl) ?_
          simp only [Act.put, List.setIfInBounds_toArray, List.set_cons_succ, List.set_cons_zero]
          go_wp2_with fail
          refine bodyPost_ret (v := .tuple #[.agg (ka ck), .agg (va ch0)]) (results_two rfl _ _ _ _ 25 26 (ka ck) (va ch0) (0, 0) (0, 0) _ _ rfl e0 Tryd.underlying25 rfl (infoArrK _) rfl e1 Tryd.underlying26 rfl (infoArrV _)) rfl ⟨rfl, below_setRow (below_setRow hb (Nat.le_refl _) _) (by omega) _⟩
        · refine op_store_row rfl none rfl rfl 25 _ _ rfl _ zK (ka ck) rfl rfl r0 (infoArrK _) rfl (arr_one _ _ _) ?_
          refine any_one 1 (by kernel_rfl) ?_
          refine op_load_row rfl (some 30) rfl rfl 26 _ rfl (kb + 1) rfl 26 (va ch0) (0, 0) _ k3 Tryd.underlying26 rfl (infoArrV _) ?_
          refine any_one 3 (by kernel_rfl) ?_
          refine op_store_row rfl none rfl rfl 26 _ _ rfl _ zV (va ch0) rfl rfl r3 (infoArrV _) rfl (arr_one _ _ _) ?_
          refine any_end (by kernel_rfl) ?_
          simp only [Act.put, List.setIfInBounds_toArray, List.set_cons_succ, List.set_cons_zero]
          go_wp2_with fail
          refine bodyPost_ret (v := .tuple #[.agg (ka ck), .agg (va ch0)]) (results_two rfl _ _ _ _ 25 26 (ka ck) (va ch0) (0, 0) (0, 0) _ _ rfl e0 Tryd.underlying25 rfl (infoArrK _) rfl e1 Tryd.underlying26 rfl (infoArrV _)) rfl ⟨rfl, below_setRow (below_setRow hb (Nat.le_refl _) _) (by omega) _⟩
      · refine op_load_row rfl (some 30) rfl rfl 26 _ rfl (kb + 1) rfl 26 (va ch0) (0, 0) _ k1 Tryd.underlying26 rfl (infoArrV _) ?_
        refine any_one 0 (by kernel_rfl) ?_
        refine op_load_row rfl (some 29) rfl rfl 25 _ rfl kb rfl 25 (ka ck) (0, 0) _ k0 Tryd.underlying25 rfl (infoArrK _) ?_
        refine any_one 2 (by kernel_rfl) ?_
        refine op_store_row rfl none rfl rfl 25 _ _ rfl _ zK (ka ck) rfl rfl r0 (infoArrK _) rfl (arr_one _ _ _) ?_
        refine any_one 3 (by kernel_rfl) ?_
        refine op_store_row rfl none rfl rfl 26 _ _ rfl _ zV (va ch0) rfl rfl r3 (infoArrV _) rfl (arr_one _ _ _) ?_
        refine any_end (by kernel_rfl) ?_
        simp only [Act.put, List.setIfInBounds_toArray, List.set_cons_succ, List.set_cons_zero]
        go_wp2_with fail
        refine bodyPost_ret (v := .tuple #[.agg (ka ck), .agg (va ch0)]) (results_two rfl _ _ _ _ 25 26 (ka ck) (va ch0) (0, 0) (0, 0) _ _ rfl e0 Tryd.underlying25 rfl (infoArrK _) rfl e1 Tryd.underlying26 rfl (infoArrV _)) rfl ⟨rfl, below_setRow (below_setRow hb (Nat.le_refl _) _) (by omega) _⟩
end Go.Proofs.YtnnodibjocilmaaDoor
