/- What the function Bits of the document's digits does: the digits of the number whose bits these are. -/
import Derived.Test.YtdpbjdecbilaeaaGreatG5
import Derived.Test.YtdpbjdecbilaeaaGreatG4
import Derived.Deep.LoopGhost
import Derived.Test.YtdpbjdecbilaeaaGreatG3
namespace Go.Proofs.YtdpbjdecbilaeaaGreat
open Go.RowKit SmWord
set_option maxRecDepth 100000

/-- The bits of n. -/
def ba (n : Nat) : Array Value := arr .i64 256 (fun i => ((bitN n i : Nat) : Int))
def zB : Array Value := arr .i64 256 (fun _ => 0)
theorem Tryz.infoB : (Tryz.prog.info? 61).map (fun i => (i.zero, i.size)) = some (some (.agg zB), 256) := by kernel_rfl
theorem zB_run (w : World) : (zeroValue 61).run Tryz.prog w = .ok (.agg zB) w := (zero_of_info Tryz.infoB).1 w
theorem infoArrB (f : Nat → Int) : (Tryz.prog.info? 61).map (·.size) = some (arr .i64 256 f).size := by rw [arr_size]; exact (zero_of_info Tryz.infoB).2
theorem ba_congr {m n : Nat} (h : m % M = n % M) : ba m = ba n := arr_congr fun _ hi => by rw [bit_congr h hi]
theorem accB_start (m : Nat) : arr .i64 32 (fun q => ((accB m 256 q : Nat) : Int)) = zD := arr_congr fun q hq => by rw [accB_end m q hq]; rfl
theorem accB_last (m : Nat) : arr .i64 32 (fun q => ((accB m 0 q : Nat) : Int)) = da m := arr_congr fun q _ => by rw [accB_zero]
theorem accB_val (m j : Nat) : ((accB m (j + 1) (j / 8) : Nat) : Int) * 2 + ((bitN m j : Nat) : Int) = ((accB m j (j / 8) : Nat) : Int) := by
  obtain ⟨h1, _⟩ := accB_step m j
  omega
theorem accB_put (m j : Nat) (hj : j / 8 < 32) : (arr .i64 32 (fun q => ((accB m (j + 1) q : Nat) : Int))).setIfInBounds (j / 8) (.int .i64 ((accB m j (j / 8) : Nat) : Int)) = arr .i64 32 (fun q => ((accB m j q : Nat) : Int)) := by
  rw [arr_set _ _ _ hj]
  refine arr_congr fun q _ => ?_
  by_cases h : q = j / 8
  · subst h; simp
  · rw [if_neg h, accB_other m j q (fun e => h e.symm)]
set_option maxHeartbeats 2000000 in
theorem bits_ref (n : Nat) (w : World) : Calls Tryz.prog 61 #[.agg (ba n)] w fun e w' => e = .returned (.agg (da n)) ∧ Below w.heap.size w w' := by
  have hbs : (ba n).size = 256 := arr_size _ _ _
  go_enter Tryz.func61, Tryz.ntmps61
  go_wp2_with (first | (refine wpList_alloc_row rfl 39 rfl zD zD_run ?_) | (refine wpList_build_zero rfl 39 rfl Tryz.underlying39 Tryz.sizeOf3 zD zD_run ?_) | (refine wpList_store_row rfl 39 _ _ rfl _ zD zD rfl rfl (heap_alloc_new _ _) (infoArr _) rfl (arr_one _ _ _) ?_))
  clear hbs
  have f0 : ((((w.alloc (.cells (ba n) 61)).alloc (.cells zD 39)).alloc (.cells zD 39)).setRow (w.heap.size + 1 + 1) zD).heap[w.heap.size]? = some (.cells (ba n) 61) := blk_row_other (blk_alloc (blk_alloc (by have := heap_alloc_new w (.cells (ba n) 61); simpa using this))) (by omega)
  have f1 : ((((w.alloc (.cells (ba n) 61)).alloc (.cells zD 39)).alloc (.cells zD 39)).setRow (w.heap.size + 1 + 1) zD).heap[w.heap.size + 1]? = some (.cells zD 39) := blk_row_other (blk_alloc (by have := heap_alloc_new (w.alloc (.cells (ba n) 61)) (.cells zD 39); simpa using this)) (by omega)
  have f2 : ((((w.alloc (.cells (ba n) 61)).alloc (.cells zD 39)).alloc (.cells zD 39)).setRow (w.heap.size + 1 + 1) zD).heap[w.heap.size + 1 + 1]? = some (.cells zD 39) := blk_row (by have := heap_alloc_new ((w.alloc (.cells (ba n) 61)).alloc (.cells zD 39)) (.cells zD 39); simpa using this)
  have bW : Below w.heap.size w ((((w.alloc (.cells (ba n) 61)).alloc (.cells zD 39)).alloc (.cells zD 39)).setRow (w.heap.size + 1 + 1) zD) := below_setRow ((((Below.refl _ _).alloc (by simp; try omega) _).alloc (by simp; try omega) _).alloc (by simp; try omega) _) (by omega) _
  generalize ((((w.alloc (.cells (ba n) 61)).alloc (.cells zD 39)).alloc (.cells zD 39)).setRow (w.heap.size + 1 + 1) zD) = W at *
  go_loopw [4] (fun i wr => ∃ k : Nat, k ≤ 256 ∧ i = .int .i64 ((k : Int) - 1) ∧ Below w.heap.size w wr ∧ wr.heap[w.heap.size]? = some (.cells (ba n) 61) ∧ wr.heap[w.heap.size + 1]? = some (.cells zD 39) ∧
      wr.heap[w.heap.size + 1 + 1]? = some (.cells (arr .i64 32 (fun q => ((accB n k q : Nat) : Int))) 39)) (fun i _ => (intOf i + 1).toNat)
  case atStart => exact ⟨256, Nat.le_refl _, rfl, bW, f0, f1, by rw [accB_start]; exact f2⟩
  case round =>
    obtain ⟨k, hk, rfl, hb, ha, hr, hd⟩ := hrel
    clear f0 f1 f2 bW
    by_cases hlt : 0 < k
    · obtain ⟨j, rfl⟩ : ∃ j, k = j + 1 := ⟨k - 1, by omega⟩
      have e1 : ((j + 1 : Nat) : Int) - 1 = (j : Int) := by omega
      rw [e1]
      have hj4 : j / 8 < 32 := by omega
      have c1 := blk_cell ha (arr_get .i64 _ (show j < 256 by omega))
      have c2 := blk_cell hd (arr_get .i64 _ hj4)
      have c3 := blk_frozen (j := j / 8) hd
      have d1 := bitN_lt n j
      have d2 : accB n (j + 1) (j / 8) < 256 := by have := accB_step n j; omega
      have HA := Lib.hid ha
      have HR := Lib.hid hr
      have HD := Lib.hid hd
      have HB := Lib.hid hb
      clear ha hr hd hb e1
      go_wp2_with fail
      go_region
      go_wp2_with fail
      rw [accB_val]
      refine ⟨⟨j, by omega, rfl, (HB.out.setCell (by simp; omega) _).drew, blk_other HA.out (by omega) _, blk_other HR.out (by omega) _, ?_⟩, by simp [intOf]⟩
      rw [← accB_put n j hj4]
      exact blk_set HD.out _
    · obtain rfl : k = 0 := by omega
      rw [accB_last] at hd
      have HB := Lib.hid hb
      clear hb ha
      go_wp2_with (first | (refine wpList_load_row rfl 39 _ rfl _ rfl 39 (da n) (0, 0) _ hd Tryz.underlying39 rfl (infoArr _) ?_) | (refine wpList_store_row rfl 39 _ _ rfl _ zD (da n) rfl rfl hr (infoArr _) rfl (arr_one _ _ _) ?_))
      exact bodyPost_ret (v := .agg (da n)) (results_cell_row rfl _ _ _ 39 (da n) (0, 0) _ rfl (blk_row hr) Tryz.underlying39 rfl (infoArr _)) rfl ⟨rfl, below_setRow HB.out (by omega) _⟩
end Go.Proofs.YtdpbjdecbilaeaaGreat
/- What the function Shift of the document's digits does: the digits of the number whose bits stand so many places up, or down. -/
namespace Go.Proofs.YtdpbjdecbilaeaaGreat
open Go.RowKit SmWord
set_option maxRecDepth 100000

theorem stay {w w' : World} (h : Below w.heap.size w w') {b : Nat} {o : Obj} (hb : w.heap[b]? = some o) : w'.heap[b]? = some o := Ext.block ⟨w', h⟩ hb
theorem fillB_step (f : Nat → Int) (k : Nat) (hk : k < 256) (v : Int) (hv : v = f k) :
    (arr .i64 256 (fun j => if j < k then f j else 0)).setIfInBounds k (.int .i64 v) = arr .i64 256 (fun j => if j < k + 1 then f j else 0) := by
  rw [arr_set _ _ _ hk]
  refine arr_congr fun i _ => ?_
  by_cases h1 : i = k
  · subst h1; simp [hv]
  · by_cases h2 : i < k
    · simp [h1, h2, show i < k + 1 by omega]
    · simp [h1, h2, show ¬ i < k + 1 by omega]
theorem fillB_start (f : Nat → Int) : arr .i64 256 (fun j => if j < 0 then f j else 0) = zB := arr_congr fun i _ => by simp
theorem fillB_end (f : Nat → Int) : arr .i64 256 (fun j => if j < 256 then f j else 0) = arr .i64 256 f := arr_congr fun i hi => by simp [hi]
set_option maxHeartbeats 2000000 in
theorem shift_ref (m t : Nat) (s : Int) (w : World) (hs0 : -300 ≤ s) (hs1 : s ≤ 300) (ht : Hid (∀ i : Nat, i < 256 → bitI m ((i : Int) - s) = ((bitN t i : Nat) : Int))) :
    Calls Tryz.prog 22 #[.agg (da m), .int .i64 s] w fun e w' => e = .returned (.agg (da t)) ∧ Below w.heap.size w w' := by
  have hds : (da m).size = 32 := arr_size _ _ _
  go_enter Tryz.func22, Tryz.ntmps22
  go_wp2_with (first | (refine wpList_alloc_row rfl 39 rfl zD zD_run ?_) | (refine wpList_build_zero rfl 39 rfl Tryz.underlying39 Tryz.sizeOf3 zD zD_run ?_) | (refine wpList_store_row rfl 39 _ _ rfl _ zD zD rfl rfl (heap_alloc_new _ _) (infoArr _) rfl (arr_one _ _ _) ?_) | (refine wpList_alloc_row rfl 61 rfl zB zB_run ?_) | (refine wpList_build_zero rfl 61 rfl Tryz.underlying61 Tryz.sizeOf3 zB zB_run ?_) | (refine wpList_store_row rfl 61 _ _ rfl _ zB zB rfl rfl (heap_alloc_new _ _) (infoArrB _) rfl (arr_one _ _ _) ?_))
  clear hds
  have f0 : ((((w.alloc (.cells (da m) 39)).alloc (.cells zD 39)).alloc (.cells zB 61)).setRow (w.heap.size + 1 + 1) zB).heap[w.heap.size]? = some (.cells (da m) 39) := blk_row_other (blk_alloc (blk_alloc (by have := heap_alloc_new w (.cells (da m) 39); simpa using this))) (by omega)
  have f1 : ((((w.alloc (.cells (da m) 39)).alloc (.cells zD 39)).alloc (.cells zB 61)).setRow (w.heap.size + 1 + 1) zB).heap[w.heap.size + 1]? = some (.cells zD 39) := blk_row_other (blk_alloc (by have := heap_alloc_new (w.alloc (.cells (da m) 39)) (.cells zD 39); simpa using this)) (by omega)
  have f2 : ((((w.alloc (.cells (da m) 39)).alloc (.cells zD 39)).alloc (.cells zB 61)).setRow (w.heap.size + 1 + 1) zB).heap[w.heap.size + 1 + 1]? = some (.cells zB 61) := blk_row (by have := heap_alloc_new ((w.alloc (.cells (da m) 39)).alloc (.cells zD 39)) (.cells zB 61); simpa using this)
  have bW : Below w.heap.size w ((((w.alloc (.cells (da m) 39)).alloc (.cells zD 39)).alloc (.cells zB 61)).setRow (w.heap.size + 1 + 1) zB) := below_setRow ((((Below.refl _ _).alloc (by simp; try omega) _).alloc (by simp; try omega) _).alloc (by simp; try omega) _) (by omega) _
  generalize ((((w.alloc (.cells (da m) 39)).alloc (.cells zD 39)).alloc (.cells zB 61)).setRow (w.heap.size + 1 + 1) zB) = W at *
  go_loopw [6] (fun i wr => ∃ k : Nat, k ≤ 256 ∧ i = .int .i64 k ∧ Below w.heap.size w wr ∧ wr.heap[w.heap.size]? = some (.cells (da m) 39) ∧ wr.heap[w.heap.size + 1]? = some (.cells zD 39) ∧
      wr.heap[w.heap.size + 1 + 1]? = some (.cells (arr .i64 256 (fun j => if j < k then ((bitN t j : Nat) : Int) else 0)) 61)) (fun i _ => 256 - (intOf i).toNat)
  case atStart => exact ⟨0, Nat.zero_le _, rfl, bW, f0, f1, by rw [fillB_start]; exact f2⟩
  case round =>
    obtain ⟨k, hk, rfl, hb, ha, hr, hd⟩ := hrel
    clear f0 f1 f2 bW
    by_cases hlt : k < 256
    · have HT := Lib.hid (ht.out k hlt)
      have HA := Lib.hid ha
      have HR := Lib.hid hr
      have HD := Lib.hid hd
      have HB := Lib.hid hb
      clear ha hr hd hb
      go_wp2_with (refine wpList_load_row rfl 39 _ rfl _ rfl 39 (da m) (0, 0) _ HA.out Tryz.underlying39 rfl (infoArr _) ?_)
      refine (bit_ref m _ _).mono ?_
      rintro e w1 ⟨rfl, b1⟩
      have ha := stay b1 HA.out
      have hr := stay b1 HR.out
      have hd := stay b1 HD.out
      have hb := HB.out.trans (b1.mono HB.out.size)
      have c2 := blk_cell hd (arr_get .i64 _ hlt)
      have c3 := blk_frozen (j := k) hd
      clear HA HR HD HB
      have HA := Lib.hid ha
      have HR := Lib.hid hr
      have HD := Lib.hid hd
      have HB := Lib.hid hb
      clear ha hr hd hb b1
      rw [HT.out]
      go_wp2_with fail
      refine ⟨⟨k + 1, by omega, by go_num, HB.out.setCell (by simp; omega) _, blk_other HA.out (by omega) _, blk_other HR.out (by omega) _, ?_⟩, by simp [intOf]; omega⟩
      rw [← fillB_step (fun j => ((bitN t j : Nat) : Int)) k hlt _ rfl]
      exact blk_set HD.out _
    · obtain rfl : k = 256 := by omega
      rw [fillB_end] at hd
      have HB := Lib.hid hb
      clear hb ha
      go_wp2_with (refine wpList_load_row rfl 61 _ rfl _ rfl 61 (ba t) (0, 0) _ hd Tryz.underlying61 rfl (infoArrB _) ?_)
      refine (bits_ref t _).mono ?_
      rintro e w1 ⟨rfl, b1⟩
      have hr1 := stay b1 hr
      go_wp2_with (refine wpList_store_row rfl 39 _ _ rfl _ zD (da t) rfl rfl hr1 (infoArr _) rfl (arr_one _ _ _) ?_)
      exact bodyPost_ret (v := .agg (da t)) (results_cell_row rfl _ _ _ 39 (da t) (0, 0) _ rfl (blk_row hr1) Tryz.underlying39 rfl (infoArr _)) rfl ⟨rfl, below_setRow (HB.out.trans (b1.mono HB.out.size)) (by omega) _⟩
end Go.Proofs.YtdpbjdecbilaeaaGreat
/- What the function Logic of the document's digits does: the digits of the number whose bits both have, one has, or just one has. -/
namespace Go.Proofs.YtdpbjdecbilaeaaGreat
open Go.RowKit SmWord
set_option maxRecDepth 100000
theorem fillB_none (f : Nat → Int) (k : Nat) (hv : f k = 0) : arr .i64 256 (fun j => if j < k then f j else 0) = arr .i64 256 (fun j => if j < k + 1 then f j else 0) :=
  arr_congr fun i _ => by
    by_cases h1 : i = k
    · subst h1; simp [hv]
    · by_cases h2 : i < k
      · simp [h2, show i < k + 1 by omega]
      · simp [h2, show ¬ i < k + 1 by omega]

set_option maxHeartbeats 4000000 in
theorem logic_ref0 (m n t : Nat) (w : World) (ht : Hid (∀ i : Nat, i < 256 → bitN t i = if bitN m i + bitN n i = 2 then 1 else 0)) :
    Calls Tryz.prog 19 #[.agg (da m), .agg (da n), .int .i64 0] w fun e w' => e = .returned (.agg (da t)) ∧ Below w.heap.size w w' := by
  have hds : ∀ x, (da x).size = 32 := fun x => arr_size _ _ _
  go_enter Tryz.func19, Tryz.ntmps19
  go_wp2_with (first | (refine wpList_alloc_row rfl 39 rfl zD zD_run ?_) | (refine wpList_alloc_row rfl 61 rfl zB zB_run ?_) | (refine wpList_build_zero rfl 61 rfl Tryz.underlying61 Tryz.sizeOf3 zB zB_run ?_) | (refine wpList_store_row rfl 61 _ _ rfl _ zB zB rfl rfl (heap_alloc_new _ _) (infoArrB _) rfl (arr_one _ _ _) ?_))
  clear hds
  have f0 : (((((w.alloc (.cells (da m) 39)).alloc (.cells (da n) 39)).alloc (.cells zD 39)).alloc (.cells zB 61)).setRow (w.heap.size + 1 + 1 + 1) zB).heap[w.heap.size]? = some (.cells (da m) 39) := blk_row_other (blk_alloc (blk_alloc (blk_alloc (by have := heap_alloc_new w (.cells (da m) 39); simpa using this)))) (by omega)
  have f1 : (((((w.alloc (.cells (da m) 39)).alloc (.cells (da n) 39)).alloc (.cells zD 39)).alloc (.cells zB 61)).setRow (w.heap.size + 1 + 1 + 1) zB).heap[w.heap.size + 1]? = some (.cells (da n) 39) := blk_row_other (blk_alloc (blk_alloc (by have := heap_alloc_new (w.alloc (.cells (da m) 39)) (.cells (da n) 39); simpa using this))) (by omega)
  have f2 : (((((w.alloc (.cells (da m) 39)).alloc (.cells (da n) 39)).alloc (.cells zD 39)).alloc (.cells zB 61)).setRow (w.heap.size + 1 + 1 + 1) zB).heap[w.heap.size + 1 + 1]? = some (.cells zD 39) := blk_row_other (blk_alloc (by have := heap_alloc_new ((w.alloc (.cells (da m) 39)).alloc (.cells (da n) 39)) (.cells zD 39); simpa using this)) (by omega)
  have f3 : (((((w.alloc (.cells (da m) 39)).alloc (.cells (da n) 39)).alloc (.cells zD 39)).alloc (.cells zB 61)).setRow (w.heap.size + 1 + 1 + 1) zB).heap[w.heap.size + 1 + 1 + 1]? = some (.cells zB 61) := blk_row (by have := heap_alloc_new (((w.alloc (.cells (da m) 39)).alloc (.cells (da n) 39)).alloc (.cells zD 39)) (.cells zB 61); simpa using this)
  have bW : Below w.heap.size w (((((w.alloc (.cells (da m) 39)).alloc (.cells (da n) 39)).alloc (.cells zD 39)).alloc (.cells zB 61)).setRow (w.heap.size + 1 + 1 + 1) zB) := below_setRow (((((Below.refl _ _).alloc (by simp; try omega) _).alloc (by simp; try omega) _).alloc (by simp; try omega) _).alloc (by simp; try omega) _) (by omega) _
  generalize (((((w.alloc (.cells (da m) 39)).alloc (.cells (da n) 39)).alloc (.cells zD 39)).alloc (.cells zB 61)).setRow (w.heap.size + 1 + 1 + 1) zB) = W at *
  go_loopw [8, 9] (fun i _ wr => ∃ k : Nat, k ≤ 256 ∧ i = .int .i64 k ∧ Below w.heap.size w wr ∧ wr.heap[w.heap.size]? = some (.cells (da m) 39) ∧ wr.heap[w.heap.size + 1]? = some (.cells (da n) 39) ∧ wr.heap[w.heap.size + 1 + 1]? = some (.cells zD 39) ∧
      wr.heap[w.heap.size + 1 + 1 + 1]? = some (.cells (arr .i64 256 (fun j => if j < k then ((bitN t j : Nat) : Int) else 0)) 61)) (fun i _ _ => 256 - (intOf i).toNat)
  case atStart => exact ⟨0, Nat.zero_le _, rfl, bW, f0, f1, f2, by rw [fillB_start]; exact f3⟩
  case round =>
    obtain ⟨k, hk, rfl, hb, ha, hn, hr, hd⟩ := hrel
    clear f0 f1 f2 f3 bW
    by_cases hlt : k < 256
    · have HT := Lib.hid (ht.out k hlt)
      have b1 := bitN_lt m k
      have b2 := bitN_lt n k
      have HA := Lib.hid ha
      have HN := Lib.hid hn
      have HR := Lib.hid hr
      have HD := Lib.hid hd
      have HB := Lib.hid hb
      clear ha hn hr hd hb
      have h0 : bitN m k = 0 ∨ bitN m k = 1 := by omega
      have h1 : bitN n k = 0 ∨ bitN n k = 1 := by omega
      have K1 := fun w => bit_mid m k w hlt
      have K2 := fun w => bit_mid n k w hlt
      rcases h0 with h0 | h0 <;> rcases h1 with h1 | h1
      all_goals
        rw [h0] at K1 HT
        rw [h1] at K2 HT
        have K1 := Lib.hid K1
        have K2 := Lib.hid K2
        clear h0 h1 b1 b2
        simp at HT
        go_wp2_with fail
        refine region_ext (by kernel_rfl) (by kernel_rfl) ?_
        repeat (first | (go_big_quiet_want; refine quiet_load_row 39 _ rfl (w.heap.size) (da m) rfl (fun w2 hw2 => by obtain ⟨g, rfl⟩ := hw2; exact g.block HA.out) Tryz.underlying39 (infoArr _) ?_; simp only [Act.put, List.setIfInBounds_toArray, List.set_cons_succ, List.set_cons_zero]; go_big_quiet_on) | (go_big_quiet_want; refine quiet_load_row 39 _ rfl (w.heap.size + 1) (da n) rfl (fun w2 hw2 => by obtain ⟨g, rfl⟩ := hw2; exact g.block HN.out) Tryz.underlying39 (infoArr _) ?_; simp only [Act.put, List.setIfInBounds_toArray, List.set_cons_succ, List.set_cons_zero]; go_big_quiet_on) | go_big_quiet_step (first | (go_at_call 60; first | with_reducible exact calls_ext (K1.out _) | with_reducible exact calls_ext (K2.out _))))
        refine wpQuiet_nil ?_
        rintro _ ⟨g, rfl⟩
        have ha := g.block HA.out
        have hn := g.block HN.out
        have hr := g.block HR.out
        have hd := g.block HD.out
        have hb := HB.out.trans (g.below.mono HB.out.size)
        generalize g.on = W2 at *
        have c2 := blk_cell hd (arr_get .i64 _ hlt)
        have c3 := blk_frozen (j := k) hd
        clear HA HN HR HD HB
        have HA := Lib.hid ha
        have HN := Lib.hid hn
        have HR := Lib.hid hr
        have HD := Lib.hid hd
        have HB := Lib.hid hb
        clear ha hn hr hd hb
        go_wp2_with fail
        first
          | (refine ⟨⟨k + 1, by omega, by go_num, HB.out.setCell (by simp; omega) _, blk_other HA.out (by omega) _, blk_other HN.out (by omega) _, blk_other HR.out (by omega) _, ?_⟩, by simp [intOf]; omega⟩; rw [← fillB_step (fun j => ((bitN t j : Nat) : Int)) k hlt 1 (by rw [HT.out]; rfl)]; exact blk_set HD.out _)
          | (refine ⟨⟨k + 1, by omega, by go_num, HB.out, HA.out, HN.out, HR.out, ?_⟩, by simp [intOf]; omega⟩; rw [← fillB_none (fun j => ((bitN t j : Nat) : Int)) k (by rw [HT.out]; rfl)]; exact HD.out)
    · obtain rfl : k = 256 := by omega
      rw [fillB_end] at hd
      have HB := Lib.hid hb
      clear hb ha hn
      go_wp2_with (refine wpList_load_row rfl 61 _ rfl _ rfl 61 (ba t) (0, 0) _ hd Tryz.underlying61 rfl (infoArrB _) ?_)
      refine (bits_ref t _).mono ?_
      rintro e w1 ⟨rfl, b1⟩
      have hr1 := stay b1 hr
      go_wp2_with (refine wpList_store_row rfl 39 _ _ rfl _ zD (da t) rfl rfl hr1 (infoArr _) rfl (arr_one _ _ _) ?_)
      exact bodyPost_ret (v := .agg (da t)) (results_cell_row rfl _ _ _ 39 (da t) (0, 0) _ rfl (blk_row hr1) Tryz.underlying39 rfl (infoArr _)) rfl ⟨rfl, below_setRow (HB.out.trans (b1.mono HB.out.size)) (by omega) _⟩

set_option maxHeartbeats 4000000 in
theorem logic_ref1 (m n t : Nat) (w : World) (ht : Hid (∀ i : Nat, i < 256 → bitN t i = if 0 < bitN m i + bitN n i then 1 else 0)) :
    Calls Tryz.prog 19 #[.agg (da m), .agg (da n), .int .i64 1] w fun e w' => e = .returned (.agg (da t)) ∧ Below w.heap.size w w' := by
  have hds : ∀ x, (da x).size = 32 := fun x => arr_size _ _ _
  go_enter Tryz.func19, Tryz.ntmps19
  go_wp2_with (first | (refine wpList_alloc_row rfl 39 rfl zD zD_run ?_) | (refine wpList_alloc_row rfl 61 rfl zB zB_run ?_) | (refine wpList_build_zero rfl 61 rfl Tryz.underlying61 Tryz.sizeOf3 zB zB_run ?_) | (refine wpList_store_row rfl 61 _ _ rfl _ zB zB rfl rfl (heap_alloc_new _ _) (infoArrB _) rfl (arr_one _ _ _) ?_))
  clear hds
  have f0 : (((((w.alloc (.cells (da m) 39)).alloc (.cells (da n) 39)).alloc (.cells zD 39)).alloc (.cells zB 61)).setRow (w.heap.size + 1 + 1 + 1) zB).heap[w.heap.size]? = some (.cells (da m) 39) := blk_row_other (blk_alloc (blk_alloc (blk_alloc (by have := heap_alloc_new w (.cells (da m) 39); simpa using this)))) (by omega)
  have f1 : (((((w.alloc (.cells (da m) 39)).alloc (.cells (da n) 39)).alloc (.cells zD 39)).alloc (.cells zB 61)).setRow (w.heap.size + 1 + 1 + 1) zB).heap[w.heap.size + 1]? = some (.cells (da n) 39) := blk_row_other (blk_alloc (blk_alloc (by have := heap_alloc_new (w.alloc (.cells (da m) 39)) (.cells (da n) 39); simpa using this))) (by omega)
  have f2 : (((((w.alloc (.cells (da m) 39)).alloc (.cells (da n) 39)).alloc (.cells zD 39)).alloc (.cells zB 61)).setRow (w.heap.size + 1 + 1 + 1) zB).heap[w.heap.size + 1 + 1]? = some (.cells zD 39) := blk_row_other (blk_alloc (by have := heap_alloc_new ((w.alloc (.cells (da m) 39)).alloc (.cells (da n) 39)) (.cells zD 39); simpa using this)) (by omega)
  have f3 : (((((w.alloc (.cells (da m) 39)).alloc (.cells (da n) 39)).alloc (.cells zD 39)).alloc (.cells zB 61)).setRow (w.heap.size + 1 + 1 + 1) zB).heap[w.heap.size + 1 + 1 + 1]? = some (.cells zB 61) := blk_row (by have := heap_alloc_new (((w.alloc (.cells (da m) 39)).alloc (.cells (da n) 39)).alloc (.cells zD 39)) (.cells zB 61); simpa using this)
  have bW : Below w.heap.size w (((((w.alloc (.cells (da m) 39)).alloc (.cells (da n) 39)).alloc (.cells zD 39)).alloc (.cells zB 61)).setRow (w.heap.size + 1 + 1 + 1) zB) := below_setRow (((((Below.refl _ _).alloc (by simp; try omega) _).alloc (by simp; try omega) _).alloc (by simp; try omega) _).alloc (by simp; try omega) _) (by omega) _
  generalize (((((w.alloc (.cells (da m) 39)).alloc (.cells (da n) 39)).alloc (.cells zD 39)).alloc (.cells zB 61)).setRow (w.heap.size + 1 + 1 + 1) zB) = W at *
  go_loopw [8, 9] (fun i _ wr => ∃ k : Nat, k ≤ 256 ∧ i = .int .i64 k ∧ Below w.heap.size w wr ∧ wr.heap[w.heap.size]? = some (.cells (da m) 39) ∧ wr.heap[w.heap.size + 1]? = some (.cells (da n) 39) ∧ wr.heap[w.heap.size + 1 + 1]? = some (.cells zD 39) ∧
      wr.heap[w.heap.size + 1 + 1 + 1]? = some (.cells (arr .i64 256 (fun j => if j < k then ((bitN t j : Nat) : Int) else 0)) 61)) (fun i _ _ => 256 - (intOf i).toNat)
  case atStart => exact ⟨0, Nat.zero_le _, rfl, bW, f0, f1, f2, by rw [fillB_start]; exact f3⟩
  case round =>
    obtain ⟨k, hk, rfl, hb, ha, hn, hr, hd⟩ := hrel
    clear f0 f1 f2 f3 bW
    by_cases hlt : k < 256
    · have HT := Lib.hid (ht.out k hlt)
      have b1 := bitN_lt m k
      have b2 := bitN_lt n k
      have HA := Lib.hid ha
      have HN := Lib.hid hn
      have HR := Lib.hid hr
      have HD := Lib.hid hd
      have HB := Lib.hid hb
      clear ha hn hr hd hb
      have h0 : bitN m k = 0 ∨ bitN m k = 1 := by omega
      have h1 : bitN n k = 0 ∨ bitN n k = 1 := by omega
      have K1 := fun w => bit_mid m k w hlt
      have K2 := fun w => bit_mid n k w hlt
      rcases h0 with h0 | h0 <;> rcases h1 with h1 | h1
      all_goals
        rw [h0] at K1 HT
        rw [h1] at K2 HT
        have K1 := Lib.hid K1
        have K2 := Lib.hid K2
        clear h0 h1 b1 b2
        simp at HT
        go_wp2_with fail
        refine region_ext (by kernel_rfl) (by kernel_rfl) ?_
        repeat (first | (go_big_quiet_want; refine quiet_load_row 39 _ rfl (w.heap.size) (da m) rfl (fun w2 hw2 => by obtain ⟨g, rfl⟩ := hw2; exact g.block HA.out) Tryz.underlying39 (infoArr _) ?_; simp only [Act.put, List.setIfInBounds_toArray, List.set_cons_succ, List.set_cons_zero]; go_big_quiet_on) | (go_big_quiet_want; refine quiet_load_row 39 _ rfl (w.heap.size + 1) (da n) rfl (fun w2 hw2 => by obtain ⟨g, rfl⟩ := hw2; exact g.block HN.out) Tryz.underlying39 (infoArr _) ?_; simp only [Act.put, List.setIfInBounds_toArray, List.set_cons_succ, List.set_cons_zero]; go_big_quiet_on) | go_big_quiet_step (first | (go_at_call 60; first | with_reducible exact calls_ext (K1.out _) | with_reducible exact calls_ext (K2.out _))))
        refine wpQuiet_nil ?_
        rintro _ ⟨g, rfl⟩
        have ha := g.block HA.out
        have hn := g.block HN.out
        have hr := g.block HR.out
        have hd := g.block HD.out
        have hb := HB.out.trans (g.below.mono HB.out.size)
        generalize g.on = W2 at *
        have c2 := blk_cell hd (arr_get .i64 _ hlt)
        have c3 := blk_frozen (j := k) hd
        clear HA HN HR HD HB
        have HA := Lib.hid ha
        have HN := Lib.hid hn
        have HR := Lib.hid hr
        have HD := Lib.hid hd
        have HB := Lib.hid hb
        clear ha hn hr hd hb
        go_wp2_with fail
        first
          | (refine ⟨⟨k + 1, by omega, by go_num, HB.out.setCell (by simp; omega) _, blk_other HA.out (by omega) _, blk_other HN.out (by omega) _, blk_other HR.out (by omega) _, ?_⟩, by simp [intOf]; omega⟩; rw [← fillB_step (fun j => ((bitN t j : Nat) : Int)) k hlt 1 (by rw [HT.out]; rfl)]; exact blk_set HD.out _)
          | (refine ⟨⟨k + 1, by omega, by go_num, HB.out, HA.out, HN.out, HR.out, ?_⟩, by simp [intOf]; omega⟩; rw [← fillB_none (fun j => ((bitN t j : Nat) : Int)) k (by rw [HT.out]; rfl)]; exact HD.out)
    · obtain rfl : k = 256 := by omega
      rw [fillB_end] at hd
      have HB := Lib.hid hb
      clear hb ha hn
      go_wp2_with (refine wpList_load_row rfl 61 _ rfl _ rfl 61 (ba t) (0, 0) _ hd Tryz.underlying61 rfl (infoArrB _) ?_)
      refine (bits_ref t _).mono ?_
      rintro e w1 ⟨rfl, b1⟩
      have hr1 := stay b1 hr
      go_wp2_with (refine wpList_store_row rfl 39 _ _ rfl _ zD (da t) rfl rfl hr1 (infoArr _) rfl (arr_one _ _ _) ?_)
      exact bodyPost_ret (v := .agg (da t)) (results_cell_row rfl _ _ _ 39 (da t) (0, 0) _ rfl (blk_row hr1) Tryz.underlying39 rfl (infoArr _)) rfl ⟨rfl, below_setRow (HB.out.trans (b1.mono HB.out.size)) (by omega) _⟩

set_option maxHeartbeats 4000000 in
theorem logic_ref2 (m n t : Nat) (w : World) (ht : Hid (∀ i : Nat, i < 256 → bitN t i = if bitN m i + bitN n i = 1 then 1 else 0)) :
    Calls Tryz.prog 19 #[.agg (da m), .agg (da n), .int .i64 2] w fun e w' => e = .returned (.agg (da t)) ∧ Below w.heap.size w w' := by
  have hds : ∀ x, (da x).size = 32 := fun x => arr_size _ _ _
  go_enter Tryz.func19, Tryz.ntmps19
  go_wp2_with (first | (refine wpList_alloc_row rfl 39 rfl zD zD_run ?_) | (refine wpList_alloc_row rfl 61 rfl zB zB_run ?_) | (refine wpList_build_zero rfl 61 rfl Tryz.underlying61 Tryz.sizeOf3 zB zB_run ?_) | (refine wpList_store_row rfl 61 _ _ rfl _ zB zB rfl rfl (heap_alloc_new _ _) (infoArrB _) rfl (arr_one _ _ _) ?_))
  clear hds
  have f0 : (((((w.alloc (.cells (da m) 39)).alloc (.cells (da n) 39)).alloc (.cells zD 39)).alloc (.cells zB 61)).setRow (w.heap.size + 1 + 1 + 1) zB).heap[w.heap.size]? = some (.cells (da m) 39) := blk_row_other (blk_alloc (blk_alloc (blk_alloc (by have := heap_alloc_new w (.cells (da m) 39); simpa using this)))) (by omega)
  have f1 : (((((w.alloc (.cells (da m) 39)).alloc (.cells (da n) 39)).alloc (.cells zD 39)).alloc (.cells zB 61)).setRow (w.heap.size + 1 + 1 + 1) zB).heap[w.heap.size + 1]? = some (.cells (da n) 39) := blk_row_other (blk_alloc (blk_alloc (by have := heap_alloc_new (w.alloc (.cells (da m) 39)) (.cells (da n) 39); simpa using this))) (by omega)
  have f2 : (((((w.alloc (.cells (da m) 39)).alloc (.cells (da n) 39)).alloc (.cells zD 39)).alloc (.cells zB 61)).setRow (w.heap.size + 1 + 1 + 1) zB).heap[w.heap.size + 1 + 1]? = some (.cells zD 39) := blk_row_other (blk_alloc (by have := heap_alloc_new ((w.alloc (.cells (da m) 39)).alloc (.cells (da n) 39)) (.cells zD 39); simpa using this)) (by omega)
  have f3 : (((((w.alloc (.cells (da m) 39)).alloc (.cells (da n) 39)).alloc (.cells zD 39)).alloc (.cells zB 61)).setRow (w.heap.size + 1 + 1 + 1) zB).heap[w.heap.size + 1 + 1 + 1]? = some (.cells zB 61) := blk_row (by have := heap_alloc_new (((w.alloc (.cells (da m) 39)).alloc (.cells (da n) 39)).alloc (.cells zD 39)) (.cells zB 61); simpa using this)
  have bW : Below w.heap.size w (((((w.alloc (.cells (da m) 39)).alloc (.cells (da n) 39)).alloc (.cells zD 39)).alloc (.cells zB 61)).setRow (w.heap.size + 1 + 1 + 1) zB) := below_setRow (((((Below.refl _ _).alloc (by simp; try omega) _).alloc (by simp; try omega) _).alloc (by simp; try omega) _).alloc (by simp; try omega) _) (by omega) _
  generalize (((((w.alloc (.cells (da m) 39)).alloc (.cells (da n) 39)).alloc (.cells zD 39)).alloc (.cells zB 61)).setRow (w.heap.size + 1 + 1 + 1) zB) = W at *
  go_loopw [8, 9] (fun i _ wr => ∃ k : Nat, k ≤ 256 ∧ i = .int .i64 k ∧ Below w.heap.size w wr ∧ wr.heap[w.heap.size]? = some (.cells (da m) 39) ∧ wr.heap[w.heap.size + 1]? = some (.cells (da n) 39) ∧ wr.heap[w.heap.size + 1 + 1]? = some (.cells zD 39) ∧
      wr.heap[w.heap.size + 1 + 1 + 1]? = some (.cells (arr .i64 256 (fun j => if j < k then ((bitN t j : Nat) : Int) else 0)) 61)) (fun i _ _ => 256 - (intOf i).toNat)
  case atStart => exact ⟨0, Nat.zero_le _, rfl, bW, f0, f1, f2, by rw [fillB_start]; exact f3⟩
  case round =>
    obtain ⟨k, hk, rfl, hb, ha, hn, hr, hd⟩ := hrel
    clear f0 f1 f2 f3 bW
    by_cases hlt : k < 256
    · have HT := Lib.hid (ht.out k hlt)
      have b1 := bitN_lt m k
      have b2 := bitN_lt n k
      have HA := Lib.hid ha
      have HN := Lib.hid hn
      have HR := Lib.hid hr
      have HD := Lib.hid hd
      have HB := Lib.hid hb
      clear ha hn hr hd hb
      have h0 : bitN m k = 0 ∨ bitN m k = 1 := by omega
      have h1 : bitN n k = 0 ∨ bitN n k = 1 := by omega
      have K1 := fun w => bit_mid m k w hlt
      have K2 := fun w => bit_mid n k w hlt
      rcases h0 with h0 | h0 <;> rcases h1 with h1 | h1
      all_goals
        rw [h0] at K1 HT
        rw [h1] at K2 HT
        have K1 := Lib.hid K1
        have K2 := Lib.hid K2
        clear h0 h1 b1 b2
        simp at HT
        go_wp2_with fail
        refine region_ext (by kernel_rfl) (by kernel_rfl) ?_
        repeat (first | (go_big_quiet_want; refine quiet_load_row 39 _ rfl (w.heap.size) (da m) rfl (fun w2 hw2 => by obtain ⟨g, rfl⟩ := hw2; exact g.block HA.out) Tryz.underlying39 (infoArr _) ?_; simp only [Act.put, List.setIfInBounds_toArray, List.set_cons_succ, List.set_cons_zero]; go_big_quiet_on) | (go_big_quiet_want; refine quiet_load_row 39 _ rfl (w.heap.size + 1) (da n) rfl (fun w2 hw2 => by obtain ⟨g, rfl⟩ := hw2; exact g.block HN.out) Tryz.underlying39 (infoArr _) ?_; simp only [Act.put, List.setIfInBounds_toArray, List.set_cons_succ, List.set_cons_zero]; go_big_quiet_on) | go_big_quiet_step (first | (go_at_call 60; first | with_reducible exact calls_ext (K1.out _) | with_reducible exact calls_ext (K2.out _))))
        refine wpQuiet_nil ?_
        rintro _ ⟨g, rfl⟩
        have ha := g.block HA.out
        have hn := g.block HN.out
        have hr := g.block HR.out
        have hd := g.block HD.out
        have hb := HB.out.trans (g.below.mono HB.out.size)
        generalize g.on = W2 at *
        have c2 := blk_cell hd (arr_get .i64 _ hlt)
        have c3 := blk_frozen (j := k) hd
        clear HA HN HR HD HB
        have HA := Lib.hid ha
        have HN := Lib.hid hn
        have HR := Lib.hid hr
        have HD := Lib.hid hd
        have HB := Lib.hid hb
        clear ha hn hr hd hb
        go_wp2_with fail
        first
          | (refine ⟨⟨k + 1, by omega, by go_num, HB.out.setCell (by simp; omega) _, blk_other HA.out (by omega) _, blk_other HN.out (by omega) _, blk_other HR.out (by omega) _, ?_⟩, by simp [intOf]; omega⟩; rw [← fillB_step (fun j => ((bitN t j : Nat) : Int)) k hlt 1 (by rw [HT.out]; rfl)]; exact blk_set HD.out _)
          | (refine ⟨⟨k + 1, by omega, by go_num, HB.out, HA.out, HN.out, HR.out, ?_⟩, by simp [intOf]; omega⟩; rw [← fillB_none (fun j => ((bitN t j : Nat) : Int)) k (by rw [HT.out]; rfl)]; exact HD.out)
    · obtain rfl : k = 256 := by omega
      rw [fillB_end] at hd
      have HB := Lib.hid hb
      clear hb ha hn
      go_wp2_with (refine wpList_load_row rfl 61 _ rfl _ rfl 61 (ba t) (0, 0) _ hd Tryz.underlying61 rfl (infoArrB _) ?_)
      refine (bits_ref t _).mono ?_
      rintro e w1 ⟨rfl, b1⟩
      have hr1 := stay b1 hr
      go_wp2_with (refine wpList_store_row rfl 39 _ _ rfl _ zD (da t) rfl rfl hr1 (infoArr _) rfl (arr_one _ _ _) ?_)
      exact bodyPost_ret (v := .agg (da t)) (results_cell_row rfl _ _ _ 39 (da t) (0, 0) _ rfl (blk_row hr1) Tryz.underlying39 rfl (infoArr _)) rfl ⟨rfl, below_setRow (HB.out.trans (b1.mono HB.out.size)) (by omega) _⟩
end Go.Proofs.YtdpbjdecbilaeaaGreat
/- What the methods Len and Bytes and the function Compare of the document's digits do: how many bits, the bytes with the highest first, and -1, 0 or 1 as the first is less, the same or more. -/
namespace Go.Proofs.YtdpbjdecbilaeaaGreat
open Go.RowKit SmWord
set_option maxRecDepth 100000

theorem cmp_low (m n k : Nat) : m % 256 ^ (k + 1) = m % 256 ^ k + 256 ^ k * dig m k ∧ n % 256 ^ (k + 1) = n % 256 ^ k + 256 ^ k * dig n k := by
  constructor <;> (rw [Nat.pow_succ, Nat.mod_mul]; rfl)
/-- From the highest digit down: as long as they are the same, what is below decides. -/
theorem cmp_step (m n k : Nat) : (dig m k < dig n k → cmpN (m % 256 ^ (k + 1)) (n % 256 ^ (k + 1)) = -1) ∧ (dig n k < dig m k → cmpN (m % 256 ^ (k + 1)) (n % 256 ^ (k + 1)) = 1) ∧
    (dig m k = dig n k → cmpN (m % 256 ^ (k + 1)) (n % 256 ^ (k + 1)) = cmpN (m % 256 ^ k) (n % 256 ^ k)) := by
  obtain ⟨e1, e2⟩ := cmp_low m n k
  rw [e1, e2]
  have hp : 0 < 256 ^ k := Nat.pow_pos (by decide)
  have h1 : m % 256 ^ k < 256 ^ k := Nat.mod_lt _ hp
  have h2 : n % 256 ^ k < 256 ^ k := Nat.mod_lt _ hp
  generalize m % 256 ^ k = x at *
  generalize n % 256 ^ k = y at *
  generalize 256 ^ k = p at *
  generalize dig m k = a at *
  generalize dig n k = b at *
  have key : ∀ {a b x y : Nat}, x < p → a < b → x + p * a < y + p * b := fun {a b x y} hx hab => by
    have := Nat.mul_le_mul_left p (show a + 1 ≤ b from hab)
    rw [Nat.mul_add] at this
    omega
  unfold cmpN
  refine ⟨fun h => ?_, fun h => ?_, fun h => ?_⟩
  · rw [if_pos (key h1 h)]
  · have := key (y := x) h2 h
    rw [if_neg (by omega), if_pos this]
  · subst h
    (repeat' split) <;> omega

set_option maxHeartbeats 2000000 in
theorem compare_ref (m n : Nat) (w : World) : Calls Tryz.prog 16 #[.agg (da m), .agg (da n)] w fun e w' => e = .returned (.int .i64 (cmpN (m % M) (n % M))) ∧ Below w.heap.size w w' := by
  have hds : ∀ x, (da x).size = 32 := fun x => arr_size _ _ _
  go_enter Tryz.func16, Tryz.ntmps16
  go_wp2_with fail
  clear hds
  have f0 : ((w.alloc (.cells (da m) 39)).alloc (.cells (da n) 39)).heap[w.heap.size]? = some (.cells (da m) 39) := blk_alloc (heap_alloc_new _ _)
  have f1 : ((w.alloc (.cells (da m) 39)).alloc (.cells (da n) 39)).heap[w.heap.size + 1]? = some (.cells (da n) 39) := heap_alloc2_new _ _ _
  have bW : Below w.heap.size w ((w.alloc (.cells (da m) 39)).alloc (.cells (da n) 39)) := ((Below.refl _ _).alloc (Nat.le_refl _) _).alloc (by simp) _
  generalize (w.alloc (.cells (da m) 39)).alloc (.cells (da n) 39) = W at *
  go_loopw [5] (fun i wr => ∃ k : Nat, k ≤ 32 ∧ i = .int .i64 ((k : Int) - 1) ∧ Hid (cmpN (m % M) (n % M) = cmpN (m % 256 ^ k) (n % 256 ^ k)) ∧ Below w.heap.size w wr ∧ wr.heap[w.heap.size]? = some (.cells (da m) 39) ∧ wr.heap[w.heap.size + 1]? = some (.cells (da n) 39)) (fun i _ => (intOf i + 1).toNat)
  case atStart => exact ⟨32, Nat.le_refl _, rfl, by rw [M_256]; exact Lib.hid rfl, bW, f0, f1⟩
  case round =>
    obtain ⟨k, hk, rfl, HC, hb, ha, hn⟩ := hrel
    clear f0 f1 bW
    by_cases hlt : 0 < k
    · obtain ⟨j, rfl⟩ : ∃ j, k = j + 1 := ⟨k - 1, by omega⟩
      have e1 : ((j + 1 : Nat) : Int) - 1 = (j : Int) := by omega
      rw [e1]
      have hj : j < 32 := by omega
      have c1 := blk_cell ha (arr_get .i64 _ hj)
      have c2 := blk_cell hn (arr_get .i64 _ hj)
      have HA := Lib.hid ha
      have HN := Lib.hid hn
      have HB := Lib.hid hb
      obtain ⟨s1, s2, s3⟩ := cmp_step m n j
      have S1 := Lib.hid s1
      have S2 := Lib.hid s2
      have S3 := Lib.hid s3
      clear ha hn hb e1 s1 s2 s3
      have ht : (dig m j < dig n j) ∨ (dig n j < dig m j) ∨ dig m j = dig n j := by omega
      rcases ht with ht | ht | ht
      · have d1 : decide (((dig m j : Nat) : Int) < ((dig n j : Nat) : Int)) = true := by simp; omega
        go_wp2_with fail
        go_region
        go_wp2_with fail
        go_ret
        exact ⟨by rw [HC.out, S1.out ht]; rfl, HB.out.drew⟩
      · have d1 : decide (((dig m j : Nat) : Int) < ((dig n j : Nat) : Int)) = false := by simp; omega
        have d2 : decide (((dig n j : Nat) : Int) < ((dig m j : Nat) : Int)) = true := by simp; omega
        go_wp2_with fail
        go_region
        go_wp2_with fail
        go_region
        go_wp2_with fail
        go_ret
        exact ⟨by rw [HC.out, S2.out ht]; rfl, HB.out.drew.drew⟩
      · have d1 : decide (((dig m j : Nat) : Int) < ((dig n j : Nat) : Int)) = false := by simp; omega
        have d2 : decide (((dig n j : Nat) : Int) < ((dig m j : Nat) : Int)) = false := by simp; omega
        go_wp2_with fail
        go_region
        go_wp2_with fail
        go_region
        go_wp2_with fail
        exact ⟨⟨j, by omega, rfl, Lib.hid (by rw [HC.out, S3.out ht]), HB.out.drew.drew, HA.out, HN.out⟩, by simp [intOf]⟩
    · obtain rfl : k = 0 := by omega
      go_wp2_with fail
      go_ret
      refine ⟨?_, hb⟩
      rw [HC.out]
      simp [Nat.mod_one, cmpN]

/-- The bytes of n, the highest first. -/
def ya (n : Nat) : Array Value := arr .u8 32 (fun i => ((dig n (31 - i) : Nat) : Int))
def zY : Array Value := arr .u8 32 (fun _ => 0)
theorem ya_congr {m n : Nat} (h : m % M = n % M) : ya m = ya n := arr_congr fun _ hi => by rw [dig_congr h (by omega)]
theorem fillH_step (f : Nat → Int) (k : Nat) (hk : k < 32) (v : Int) (hv : v = f (31 - k)) :
    (arr .u8 32 (fun j => if 32 - k ≤ j then f j else 0)).setIfInBounds (31 - k) (.int .u8 v) = arr .u8 32 (fun j => if 32 - (k + 1) ≤ j then f j else 0) := by
  rw [arr_set _ _ _ (by omega)]
  refine arr_congr fun i _ => ?_
  by_cases h1 : i = 31 - k
  · subst h1; rw [if_pos rfl, if_pos (by omega), hv]
  · rw [if_neg h1]
    by_cases h2 : 32 - k ≤ i
    · rw [if_pos h2, if_pos (by omega)]
    · rw [if_neg h2, if_neg (by omega)]
theorem fillH_start (f : Nat → Int) : arr .u8 32 (fun j => if 32 - 0 ≤ j then f j else 0) = zY := arr_congr fun i hi => by rw [if_neg (by omega)]
theorem fillH_end (f : Nat → Int) : arr .u8 32 (fun j => if 32 - 32 ≤ j then f j else 0) = arr .u8 32 f := arr_congr fun i hi => by rw [if_pos (by omega)]
end Go.Proofs.YtdpbjdecbilaeaaGreat
/- What the function Add of the document's digits does: the digits of the sum, going round. -/
namespace Go.Proofs.YtdpbjdecbilaeaaGreat
open Go.RowKit SmWord
set_option maxRecDepth 100000
set_option maxHeartbeats 2000000 in
theorem add_ref (m n : Nat) (w : World) : Calls Tryz.prog 50 #[.agg (da m), .agg (da n)] w fun e w' => e = .returned (.agg (da (m + n))) ∧ Below w.heap.size w w' := by
  have hds : ∀ x, (da x).size = 32 := fun x => arr_size _ _ _
  go_enter Tryz.func50, Tryz.ntmps50
  go_wp2_with (first | (refine wpList_alloc_row rfl 39 rfl zD zD_run ?_) | (refine wpList_build_zero rfl 39 rfl Tryz.underlying39 Tryz.sizeOf3 zD zD_run ?_) | (refine wpList_store_row rfl 39 _ _ rfl _ zD zD rfl rfl (heap_alloc_new _ _) (infoArr _) rfl (arr_one _ _ _) ?_))
  clear hds
  have f0 : (((((w.alloc (.cells (da m) 39)).alloc (.cells (da n) 39)).alloc (.cells zD 39)).alloc (.cells zD 39)).setRow (w.heap.size + 1 + 1 + 1) zD).heap[w.heap.size]? = some (.cells (da m) 39) := blk_row_other (blk_alloc (blk_alloc (blk_alloc (by have := heap_alloc_new w (.cells (da m) 39); simpa using this)))) (by omega)
  have f1 : (((((w.alloc (.cells (da m) 39)).alloc (.cells (da n) 39)).alloc (.cells zD 39)).alloc (.cells zD 39)).setRow (w.heap.size + 1 + 1 + 1) zD).heap[w.heap.size + 1]? = some (.cells (da n) 39) := blk_row_other (blk_alloc (blk_alloc (by have := heap_alloc_new (w.alloc (.cells (da m) 39)) (.cells (da n) 39); simpa using this))) (by omega)
  have f2 : (((((w.alloc (.cells (da m) 39)).alloc (.cells (da n) 39)).alloc (.cells zD 39)).alloc (.cells zD 39)).setRow (w.heap.size + 1 + 1 + 1) zD).heap[w.heap.size + 1 + 1]? = some (.cells zD 39) := blk_row_other (blk_alloc (by have := heap_alloc_new ((w.alloc (.cells (da m) 39)).alloc (.cells (da n) 39)) (.cells zD 39); simpa using this)) (by omega)
  have f3 : (((((w.alloc (.cells (da m) 39)).alloc (.cells (da n) 39)).alloc (.cells zD 39)).alloc (.cells zD 39)).setRow (w.heap.size + 1 + 1 + 1) zD).heap[w.heap.size + 1 + 1 + 1]? = some (.cells zD 39) := blk_row (by have := heap_alloc_new (((w.alloc (.cells (da m) 39)).alloc (.cells (da n) 39)).alloc (.cells zD 39)) (.cells zD 39); simpa using this)
  have bW : Below w.heap.size w (((((w.alloc (.cells (da m) 39)).alloc (.cells (da n) 39)).alloc (.cells zD 39)).alloc (.cells zD 39)).setRow (w.heap.size + 1 + 1 + 1) zD) := below_setRow (((((Below.refl _ _).alloc (by simp; try omega) _).alloc (by simp; try omega) _).alloc (by simp; try omega) _).alloc (by simp; try omega) _) (by omega) _
  generalize (((((w.alloc (.cells (da m) 39)).alloc (.cells (da n) 39)).alloc (.cells zD 39)).alloc (.cells zD 39)).setRow (w.heap.size + 1 + 1 + 1) zD) = W at *
  go_loopw [6, 7] (fun c i wr => ∃ k : Nat, k ≤ 32 ∧ i = .int .i64 k ∧ c = .int .i64 ((carry m n k : Nat) : Int) ∧ Below w.heap.size w wr ∧ wr.heap[w.heap.size]? = some (.cells (da m) 39) ∧ wr.heap[w.heap.size + 1]? = some (.cells (da n) 39) ∧ wr.heap[w.heap.size + 1 + 1]? = some (.cells zD 39) ∧
      wr.heap[w.heap.size + 1 + 1 + 1]? = some (.cells (arr .i64 32 (fun j => if j < k then ((dig (m + n) j : Nat) : Int) else 0)) 39)) (fun _ i _ => 32 - (intOf i).toNat)
  case atStart => exact ⟨0, Nat.zero_le _, rfl, by rw [carry_zero]; rfl, bW, f0, f1, f2, by rw [fill_start]; exact f3⟩
  case round =>
    obtain ⟨k, hk, rfl, rfl, hb, ha, hn, hr, hd⟩ := hrel
    clear f0 f1 f2 f3 bW
    by_cases hlt : k < 32
    · have c1 := blk_cell ha (arr_get .i64 _ hlt)
      have c2 := blk_cell hn (arr_get .i64 _ hlt)
      have c3 := blk_cell hd (arr_get .i64 _ hlt)
      have c4 := blk_frozen (j := k) hd
      have d1 := dig_lt m k
      have d2 := dig_lt n k
      have d3 := (carry_eq m n k).2
      obtain ⟨s1, s2⟩ := carry_step m n k
      have S1 := Lib.hid s1
      have S2 := Lib.hid s2
      have HA := Lib.hid ha
      have HN := Lib.hid hn
      have HR := Lib.hid hr
      have HD := Lib.hid hd
      have HB := Lib.hid hb
      clear ha hn hr hd hb s1 s2
      go_wp2_with fail
      go_region
      go_wp2_with fail
      have v1 : (((dig m k : Nat) : Int) + ((dig n k : Nat) : Int) + ((carry m n k : Nat) : Int)) % 256 = ((dig (m + n) k : Nat) : Int) := by rw [← S1.out]; rfl
      have v2 : (((dig m k : Nat) : Int) + ((dig n k : Nat) : Int) + ((carry m n k : Nat) : Int)) / 256 = ((carry m n (k + 1) : Nat) : Int) := by rw [← S2.out]; rfl
      rw [v1, v2]
      refine ⟨⟨k + 1, by omega, by go_num, rfl, (HB.out.setCell (by simp; omega) _).drew, blk_other HA.out (by omega) _, blk_other HN.out (by omega) _, blk_other HR.out (by omega) _, ?_⟩, by simp [intOf]; omega⟩
      rw [← fill_step (fun j => ((dig (m + n) j : Nat) : Int)) k hlt _ rfl]
      exact blk_set HD.out _
    · obtain rfl : k = 32 := by omega
      rw [fill_end] at hd
      have HB := Lib.hid hb
      clear hb ha hn
      go_wp2_with (first | (refine wpList_load_row rfl 39 _ rfl _ rfl 39 (da (m + n)) (0, 0) _ hd Tryz.underlying39 rfl (infoArr _) ?_) | (refine wpList_store_row rfl 39 _ _ rfl _ zD (da (m + n)) rfl rfl hr (infoArr _) rfl (arr_one _ _ _) ?_))
      refine bodyPost_ret (v := .agg (da (m + n))) (results_cell_row rfl _ _ _ 39 (da (m + n)) (0, 0) _ rfl (blk_row hr) Tryz.underlying39 rfl (infoArr _)) rfl ⟨rfl, below_setRow HB.out (by omega) _⟩
end Go.Proofs.YtdpbjdecbilaeaaGreat
/- What the functions Neg and Sub of the document's digits do: the digits of what makes a number 0, and of a difference, going round. -/
namespace Go.Proofs.YtdpbjdecbilaeaaGreat
open Go.RowKit SmWord
set_option maxRecDepth 100000

theorem dig_not (n : Nat) {i : Nat} (hi : i < 32) : 255 - dig n i = dig (M - 1 - n % M) i := by
  rw [← dig_congr (Nat.mod_mod n M) hi]
  have hx : n % M < M := Nat.mod_lt _ (by decide)
  generalize n % M = x at *
  have hM : M = 256 ^ i * 256 * 256 ^ (31 - i) := by rw [← Nat.pow_succ, ← Nat.pow_add, M_256]; congr 1; omega
  unfold dig
  have hp : 0 < 256 ^ i := Nat.pow_pos (by decide)
  have h0 := Nat.mod_lt x hp
  have h1 : x % 256 ^ i + 256 ^ i * (x / 256 ^ i) = x := Nat.mod_add_div _ _
  have h2 : x / 256 ^ i % 256 + 256 * (x / 256 ^ i / 256) = x / 256 ^ i := Nat.mod_add_div _ _
  have h3 : x / 256 ^ i % 256 < 256 := Nat.mod_lt _ (by decide)
  have h4 : x / 256 ^ i / 256 < 256 ^ (31 - i) := by
    rw [Nat.div_div_eq_div_mul, Nat.div_lt_iff_lt_mul (Nat.mul_pos hp (by decide)), Nat.mul_comm, ← hM]; exact hx
  generalize x / 256 ^ i / 256 = y at *
  generalize x / 256 ^ i % 256 = d at *
  generalize x % 256 ^ i = x0 at *
  rw [← h2] at h1
  clear h2
  generalize 256 ^ (31 - i) = q at *
  generalize 256 ^ i = p at *
  obtain ⟨A, hA⟩ : ∃ A, p = x0 + A + 1 := ⟨p - x0 - 1, by omega⟩
  obtain ⟨C, hC⟩ : ∃ C, q = y + C + 1 := ⟨q - y - 1, by omega⟩
  obtain ⟨E, hE⟩ : ∃ E, 255 = d + E := ⟨255 - d, by omega⟩
  have key : M = x + (A + p * (E + 256 * C)) + 1 := by
    have h6 : (256 : Nat) = d + E + 1 := by omega
    rw [hM, ← h1, hC]
    have : p * 256 * (y + C + 1) = p * 256 * y + p * 256 * C + p * (d + E + 1) := by rw [← h6]; grind
    rw [this]
    grind
  have e : M - 1 - x = A + p * (E + 256 * C) := by omega
  rw [e, Nat.add_mul_div_left _ _ hp, Nat.div_eq_of_lt (by omega)]
  omega
theorem one_run (ρ : Operand → Value) (o : Oper) (ho : o.op = .build 39 #[(0, .const (.int .i64 1))]) (hρ : ρ (.const (.int .i64 1)) = .int .i64 1) (w : World) : (execOp ρ o).run Tryz.prog w = .ok (.value (.agg (da 1))) w := by
  obtain ⟨dst, op, type, pos, after, guard⟩ := o
  simp only at ho
  subst ho
  have h : ∀ w : World, (Instr.build 39 #[(0, .int .i64 1)]).run Tryz.prog w = .ok (.agg (da 1)) w := fun _ => by kernel_rfl
  simp [execOp, hρ, h]
theorem wpList_build_one {ops : Array Oper} {Q : Exit → Act → World → Prop} {a : Act} {w : World} {rest : List Oper} {o : Oper} (hg : o.guard = none) (ho : o.op = .build 39 #[(0, .const (.int .i64 1))])
    (h : wpList Tryz.prog ops Q rest (a.put o.dst (.agg (da 1))) w) : wpList Tryz.prog ops Q (o :: rest) a w :=
  wpList_plain hg fun _ hK => by
    unfold Oper.wp
    rw [one_run _ _ ho rfl]
    exact hK _ _ h
set_option maxHeartbeats 2000000 in
theorem neg_ref (n : Nat) (w : World) : Calls Tryz.prog 14 #[.agg (da n)] w fun e w' => e = .returned (.agg (da (M - 1 - n % M + 1))) ∧ Below w.heap.size w w' := by
  have hds : ∀ x, (da x).size = 32 := fun x => arr_size _ _ _
  go_enter Tryz.func14, Tryz.ntmps14
  go_wp2_with (first | (refine wpList_alloc_row rfl 39 rfl zD zD_run ?_) | (refine wpList_build_zero rfl 39 rfl Tryz.underlying39 Tryz.sizeOf3 zD zD_run ?_) | (refine wpList_store_row rfl 39 _ _ rfl _ zD zD rfl rfl (heap_alloc_new _ _) (infoArr _) rfl (arr_one _ _ _) ?_))
  clear hds
  have f0 : ((((w.alloc (.cells (da n) 39)).alloc (.cells zD 39)).alloc (.cells zD 39)).setRow (w.heap.size + 1 + 1) zD).heap[w.heap.size]? = some (.cells (da n) 39) := blk_row_other (blk_alloc (blk_alloc (by have := heap_alloc_new w (.cells (da n) 39); simpa using this))) (by omega)
  have f1 : ((((w.alloc (.cells (da n) 39)).alloc (.cells zD 39)).alloc (.cells zD 39)).setRow (w.heap.size + 1 + 1) zD).heap[w.heap.size + 1]? = some (.cells zD 39) := blk_row_other (blk_alloc (by have := heap_alloc_new (w.alloc (.cells (da n) 39)) (.cells zD 39); simpa using this)) (by omega)
  have f2 : ((((w.alloc (.cells (da n) 39)).alloc (.cells zD 39)).alloc (.cells zD 39)).setRow (w.heap.size + 1 + 1) zD).heap[w.heap.size + 1 + 1]? = some (.cells zD 39) := blk_row (by have := heap_alloc_new ((w.alloc (.cells (da n) 39)).alloc (.cells zD 39)) (.cells zD 39); simpa using this)
  have bW : Below w.heap.size w ((((w.alloc (.cells (da n) 39)).alloc (.cells zD 39)).alloc (.cells zD 39)).setRow (w.heap.size + 1 + 1) zD) := below_setRow ((((Below.refl _ _).alloc (by simp; try omega) _).alloc (by simp; try omega) _).alloc (by simp; try omega) _) (by omega) _
  generalize ((((w.alloc (.cells (da n) 39)).alloc (.cells zD 39)).alloc (.cells zD 39)).setRow (w.heap.size + 1 + 1) zD) = W at *
  go_loopw [4] (fun i wr => ∃ k : Nat, k ≤ 32 ∧ i = .int .i64 k ∧ Below w.heap.size w wr ∧ wr.heap[w.heap.size]? = some (.cells (da n) 39) ∧ wr.heap[w.heap.size + 1]? = some (.cells zD 39) ∧
      wr.heap[w.heap.size + 1 + 1]? = some (.cells (arr .i64 32 (fun j => if j < k then ((dig (M - 1 - n % M) j : Nat) : Int) else 0)) 39)) (fun i _ => 32 - (intOf i).toNat)
  case atStart => exact ⟨0, Nat.zero_le _, rfl, bW, f0, f1, by rw [fill_start]; exact f2⟩
  case round =>
    obtain ⟨k, hk, rfl, hb, ha, hr, hd⟩ := hrel
    clear f0 f1 f2 bW
    by_cases hlt : k < 32
    · have c1 := blk_cell ha (arr_get .i64 _ hlt)
      have c3 := blk_cell hd (arr_get .i64 _ hlt)
      have c4 := blk_frozen (j := k) hd
      have d1 := dig_lt n k
      have S1 := Lib.hid (dig_not n hlt)
      have HA := Lib.hid ha
      have HR := Lib.hid hr
      have HD := Lib.hid hd
      have HB := Lib.hid hb
      clear ha hr hd hb
      go_wp2_with fail
      have v1 : 255 - ((dig n k : Nat) : Int) = ((dig (M - 1 - n % M) k : Nat) : Int) := by rw [← S1.out]; omega
      rw [v1]
      refine ⟨⟨k + 1, by omega, by go_num, HB.out.setCell (by simp; omega) _, blk_other HA.out (by omega) _, blk_other HR.out (by omega) _, ?_⟩, by simp [intOf]; omega⟩
      rw [← fill_step (fun j => ((dig (M - 1 - n % M) j : Nat) : Int)) k hlt _ rfl]
      exact blk_set HD.out _
    · obtain rfl : k = 32 := by omega
      rw [fill_end] at hd
      have HB := Lib.hid hb
      clear hb ha
      generalize hx : M - 1 - n % M = x at *
      have HX := Lib.hid hx
      clear hx
      go_wp2_with (first | (refine wpList_load_row rfl 39 _ rfl _ rfl 39 (da x) (0, 0) _ hd Tryz.underlying39 rfl (infoArr _) ?_) | (refine wpList_build_one rfl rfl ?_))
      refine (add_ref x 1 _).mono ?_
      rintro e w1 ⟨rfl, b1⟩
      have hr1 := Ext.block ⟨w1, b1⟩ hr
      go_wp2_with (refine wpList_store_row rfl 39 _ _ rfl _ zD (da (x + 1)) rfl rfl hr1 (infoArr _) rfl (arr_one _ _ _) ?_)
      exact bodyPost_ret (v := .agg (da (x + 1))) (results_cell_row rfl _ _ _ 39 (da (x + 1)) (0, 0) _ rfl (blk_row hr1) Tryz.underlying39 rfl (infoArr _)) rfl ⟨by rw [HX.out], below_setRow (HB.out.trans (b1.mono HB.out.size)) (by omega) _⟩
end Go.Proofs.YtdpbjdecbilaeaaGreat
/- What the function Sub of the document's digits does: the digits of a difference, going round. -/
namespace Go.Proofs.YtdpbjdecbilaeaaGreat
open Go.RowKit SmWord
set_option maxRecDepth 100000
theorem sub_num_mod (m n : Nat) : (m + (M - 1 - n % M + 1) + n) % M = m % M := by
  have h : n % M < M := Nat.mod_lt _ (by decide)
  have e : m + (M - 1 - n % M + 1) + n = m + n / M * M + M := by
    have := Nat.mod_add_div n M
    rw [Nat.mul_comm M] at this
    omega
  rw [e, Nat.add_mod_right, Nat.add_mul_mod_self_right]
set_option maxHeartbeats 2000000 in
theorem sub_ref (m n : Nat) (w : World) : Calls Tryz.prog 52 #[.agg (da m), .agg (da n)] w fun e w' => e = .returned (.agg (da (m + (M - 1 - n % M + 1)))) ∧ Below w.heap.size w w' := by
  have hds : ∀ x, (da x).size = 32 := fun x => arr_size _ _ _
  go_enter Tryz.func52, Tryz.ntmps52
  go_wp2_with (refine wpList_alloc_row rfl 39 rfl zD zD_run ?_)
  clear hds
  have f0 : (((w.alloc (.cells (da m) 39)).alloc (.cells (da n) 39)).alloc (.cells zD 39)).heap[w.heap.size]? = some (.cells (da m) 39) := blk_alloc (blk_alloc (heap_alloc_new _ _))
  have f1 : (((w.alloc (.cells (da m) 39)).alloc (.cells (da n) 39)).alloc (.cells zD 39)).heap[w.heap.size + 1]? = some (.cells (da n) 39) := blk_alloc (heap_alloc2_new _ _ _)
  have f2 : (((w.alloc (.cells (da m) 39)).alloc (.cells (da n) 39)).alloc (.cells zD 39)).heap[w.heap.size + 1 + 1]? = some (.cells zD 39) := by
    have := heap_alloc_new ((w.alloc (.cells (da m) 39)).alloc (.cells (da n) 39)) (.cells zD 39)
    simpa using this
  have bW : Below w.heap.size w (((w.alloc (.cells (da m) 39)).alloc (.cells (da n) 39)).alloc (.cells zD 39)) := (((Below.refl _ _).alloc (Nat.le_refl _) _).alloc (by simp) _).alloc (by simp; omega) _
  generalize ((w.alloc (.cells (da m) 39)).alloc (.cells (da n) 39)).alloc (.cells zD 39) = W at *
  obtain ⟨x, hx⟩ : ∃ x, M - 1 - n % M + 1 = x := ⟨_, rfl⟩
  have hneg : ∀ w : World, Calls Tryz.prog 14 #[.agg (da n)] w fun e w' => e = .returned (.agg (da x)) ∧ Below w.heap.size w w' := fun w => by rw [← hx]; exact neg_ref n w
  have HN := Lib.hid hneg
  have HX := Lib.hid hx
  clear hneg hx
  simp only [Act.put, List.setIfInBounds_toArray, List.set_cons_succ, List.set_cons_zero, World.size_alloc]
  refine region_last (aQ := ?aQ) 4 (by kernel_rfl) (by kernel_rfl) (fun w1 => ?hq) (fun w' hb => ?hh)
  case hq =>
    simp only [List.take_succ_cons, List.take_zero]
    go_big_quiet_want
    refine quiet_load_row 39 _ rfl _ (da m) rfl (fun w2 hw2 => by obtain ⟨g, rfl⟩ := hw2; exact g.block (w1.block f0)) Tryz.underlying39 (infoArr _) ?_
    simp only [Act.put, List.setIfInBounds_toArray, List.set_cons_succ, List.set_cons_zero]
    go_big_quiet_on
    go_big_quiet_want
    refine quiet_load_row 39 _ rfl _ (da n) rfl (fun w2 hw2 => by obtain ⟨g, rfl⟩ := hw2; exact g.block (w1.block f1)) Tryz.underlying39 (infoArr _) ?_
    simp only [Act.put, List.setIfInBounds_toArray, List.set_cons_succ, List.set_cons_zero]
    go_big_quiet_on
    repeat (go_big_quiet_step (first | (go_at_call 14; with_reducible exact calls_ext (HN.out _)) | (go_at_call 50; with_reducible exact calls_ext (add_ref _ _ _))))
    refine wpQuiet_nil ?_
    rfl
  case hh =>
    have hr := Ext.block ⟨w', hb⟩ f2
    have bW := bW.trans (hb.mono bW.size)
    simp only [List.drop_succ_cons, List.drop_zero]
    refine wpList_store_row rfl 39 _ _ rfl _ zD (da (m + x)) rfl rfl hr (infoArr _) rfl (arr_one _ _ _) ?_
    refine wpList_nil ?_
    go_wp2_with fail
    exact bodyPost_ret (v := .agg (da (m + x))) (results_cell_row rfl _ _ _ 39 (da (m + x)) (0, 0) _ rfl (blk_row hr) Tryz.underlying39 rfl (infoArr _)) rfl ⟨by rw [HX.out], below_setRow bW (by omega) _⟩
end Go.Proofs.YtdpbjdecbilaeaaGreat
/- A region that draws its order, makes and fills one new variable, with quiet operations anywhere in its row. -/
namespace Go.Proofs.YtdpbjdecbilaeaaGreat
open Go.RowKit SmWord
set_option maxRecDepth 100000

variable {P : Program} {Q : Exit → Act → World → Prop} {a : Act} {w : World} {l : List Oper} {aQ : Act}
def mkB' (ops : Array Oper) (ks : List (Nat × Nat × TypeId × Tmp × Tmp)) : Bool :=
  makeB ops && fwdB ops && (ks.all fun m => allocAt ops m && storeAt ops m) &&
  ((List.range ops.size).all fun i => match ops[i]? with | some o => (kindOf o != 1 || ks.any fun m => m.1 == i) && (kindOf o != 2 || ks.any fun m => m.2.1 == i) | none => true) &&
  (ks.all fun m => ks.all fun m' => (m.1 != m'.1 || m == m') && (m.2.1 != m'.2.1 || m == m') && m'.2.2.2.1 != m.2.2.2.2)
theorem madeOk' {ops : Array Oper} {ms : List Mk} (hB : mkB' ops (ms.map Mk.key) = true) (hkey : ∀ m ∈ ms, ∀ m' ∈ ms, m.key = m'.key → m = m') (hok : ∀ m ∈ ms, MkOk P aQ m) : MadeOk P ops aQ (ms.map Mk.made) := by
  simp only [mkB', Bool.and_eq_true] at hB
  obtain ⟨⟨⟨⟨hM, _⟩, hks⟩, hops⟩, hone⟩ := hB
  have hat : ∀ m ∈ ms, allocAt ops m.key = true ∧ storeAt ops m.key = true := fun m hm => by
    have := List.all_eq_true.1 hks m.key (List.mem_map.2 ⟨m, hm, rfl⟩)
    simpa using this
  have hdis : ∀ m ∈ ms, ∀ m' ∈ ms, (m.op = m'.op → m = m') ∧ (m.store = m'.store → m = m') ∧ m'.d ≠ m.e := fun m hm m' hm' => by
    have h1 := List.all_eq_true.1 hone m.key (List.mem_map.2 ⟨m, hm, rfl⟩)
    have h2 := List.all_eq_true.1 h1 m'.key (List.mem_map.2 ⟨m', hm', rfl⟩)
    simp only [Bool.and_eq_true, Bool.or_eq_true, bne_iff_ne, beq_iff_eq, ne_eq] at h2
    obtain ⟨⟨h3, h4⟩, h5⟩ := h2
    exact ⟨fun e => hkey m hm m' hm' (h3.resolve_left (fun h => h e)), fun e => hkey m hm m' hm' (h4.resolve_left (fun h => h e)), h5⟩
  have hO := makeB_once hM
  refine ⟨?_, ?_, ?_, ?_, ?_, ?_⟩
  · intro m0 hm0
    obtain ⟨m, hm, rfl⟩ := List.mem_map.1 hm0
    obtain ⟨o, ho, hg, _, hop⟩ := allocAt_spec (hat m hm).1
    exact ⟨o, ho, hg, by unfold kindOf; rw [hop], fun ρ w => run_alloc_row hop (hok m hm).zero ρ w⟩
  · intro m0 hm0
    obtain ⟨m, hm, rfl⟩ := List.mem_map.1 hm0
    obtain ⟨oa, hoa, _, hda, _⟩ := allocAt_spec (hat m hm).1
    obtain ⟨o, ho, hg, hd, hop⟩ := storeAt_spec (hat m hm).2
    have hok' := hok m hm
    refine ⟨o, m.d, .tmp m.e, ho, hg, hd, by unfold kindOf; rw [hop], ?_, hok'.slot, ?_, ?_, ?_, ?_, hok'.full, ?_⟩
    · show (ops[m.key.1]?).bind _ = _
      rw [hoa]; exact hda
    · rw [hop]; simp [Op.operands, Mk.key]
    · rw [hop]; simp [Op.operands, Mk.key]
    · intro m1 hm1 hd1
      obtain ⟨m', hm', rfl⟩ := List.mem_map.1 hm1
      obtain ⟨oa', hoa', _, hda', _⟩ := allocAt_spec (hat m' hm').1
      have hd1' : oa'.dst = some m.d := by
        have : (ops[m'.key.1]?).bind (·.dst) = some m.d := hd1
        rwa [hoa'] at this
      have := hO _ _ _ _ _ hoa' hoa hd1' hda
      rw [(hdis m' hm' m hm).1 this]
    · intro e he m1 hm1 hd1
      obtain ⟨m', hm', rfl⟩ := List.mem_map.1 hm1
      obtain ⟨oa', hoa', _, hda', _⟩ := allocAt_spec (hat m' hm').1
      have hd1' : oa'.dst = some e := by
        have : (ops[m'.key.1]?).bind (·.dst) = some e := hd1
        rwa [hoa'] at this
      rw [hda'] at hd1'
      cases he
      exact (hdis m hm m' hm').2.2 (Option.some.inj hd1')
    · exact fun ρ b w hp hx hb => run_store_row hop hok'.info hok'.size hok'.one ρ b w hp hx hb
  · intro i o ho hk
    have h1 := List.all_eq_true.1 hops i (List.mem_range.2 (Array.getElem?_eq_some_iff.1 ho).1)
    simp only [ho, Bool.and_eq_true, Bool.or_eq_true, bne_iff_ne, ne_eq] at h1
    obtain ⟨m0, hm0, he⟩ := List.any_eq_true.1 (h1.1.resolve_left (fun h => h hk))
    obtain ⟨m, hm, rfl⟩ := List.mem_map.1 hm0
    exact ⟨m.made, List.mem_map.2 ⟨m, hm, rfl⟩, beq_iff_eq.1 he⟩
  · intro i o ho hk
    have h1 := List.all_eq_true.1 hops i (List.mem_range.2 (Array.getElem?_eq_some_iff.1 ho).1)
    simp only [ho, Bool.and_eq_true, Bool.or_eq_true, bne_iff_ne, ne_eq] at h1
    obtain ⟨m0, hm0, he⟩ := List.any_eq_true.1 (h1.2.resolve_left (fun h => h hk))
    obtain ⟨m, hm, rfl⟩ := List.mem_map.1 hm0
    exact ⟨m.made, List.mem_map.2 ⟨m, hm, rfl⟩, beq_iff_eq.1 he⟩
  · intro m0 hm0 m1 hm1 he
    obtain ⟨m, hm, rfl⟩ := List.mem_map.1 hm0
    obtain ⟨m', hm', rfl⟩ := List.mem_map.1 hm1
    rw [(hdis m hm m' hm').1 he]
  · intro m0 hm0 m1 hm1 he
    obtain ⟨m, hm, rfl⟩ := List.mem_map.1 hm0
    obtain ⟨m', hm', rfl⟩ := List.mem_map.1 hm1
    rw [(hdis m hm m' hm').2.1 he]
theorem quietL_mid {n : Nat} (h : ((l.take n).all (kindOf · == 0) && ((l.drop n).take 2).all (fun o => !(kindOf o == 0)) && (l.drop (n + 2)).all (kindOf · == 0)) = true) : quietL l.toArray 0 = l.take n ++ l.drop (n + 2) := by
  simp only [Bool.and_eq_true, List.all_eq_true] at h
  obtain ⟨⟨h1, h2⟩, h3⟩ := h
  have e : l = l.take n ++ ((l.drop n).take 2 ++ l.drop (n + 2)) := by
    have h4 : l.drop (n + 2) = (l.drop n).drop 2 := by rw [List.drop_drop]
    rw [h4, List.take_append_drop, List.take_append_drop]
  unfold quietL
  rw [List.drop_zero]
  show l.filter _ = _
  conv => lhs; rw [e]
  rw [List.filter_append, List.filter_append, List.filter_eq_self.2 h1, List.filter_eq_self.2 h3, List.filter_eq_nil_iff.2 (fun o ho => by simpa using h2 o ho), List.nil_append]
/-- The quiet operations may stand ahead of the new variable's and behind them. -/
theorem region_mkA {id : Nat} (n : Nat) (m : Mk) (hm : P.follows .mixedOrders = true) (hB : mkB' l.toArray [m.key] = true)
    (hL : ((l.take n).all (kindOf · == 0) && ((l.drop n).take 2).all (fun o => !(kindOf o == 0)) && (l.drop (n + 2)).all (kindOf · == 0)) = true)
    (hq : ∀ w1 : Ext w.drew, wpQuiet P l.toArray (fun w' => ∃ g : Ext w1.on, w' = g.on) (fun a' => a' = aQ) (l.take n ++ l.drop (n + 2)) a) (hok : MkOk P aQ m)
    (h : ∀ (b : Nat) (w' : World), Below w.heap.size w w' → w.heap.size ≤ b → w'.heap[b]? = some (.cells m.full m.type) → Q .normal (aQ.put (some m.d) (.pointer (some ⟨b, 0, none⟩))) w') :
    (Code.region id l.toArray true).wp P Q a w := by
  have hMO := madeOk' (P := P) (aQ := aQ) (ms := [m]) (by simpa using hB) (by simp) (by simpa using hok)
  have hB' := hB
  simp only [mkB', Bool.and_eq_true] at hB'
  refine wp_region_make (ms := [m].map Mk.made) hm hB'.1.1.1.1 hB'.1.1.1.2 hMO (fun w1 => by rw [quietL_mid hL]; exact hq w1) (fun V w' hb hLi => ?_)
  obtain ⟨b, hV, h1, _, h3, _⟩ := hLi.here m.made (by simp) trivial
  obtain ⟨oa, hoa, _, hda, _⟩ := allocAt_spec (ops := l.toArray) (m := m.key) (by
    have := List.all_eq_true.1 hB'.1.1.2 m.key (by simp)
    simp only [Bool.and_eq_true] at this
    exact this.1)
  have e : (l.toArray[m.made.op]?).bind (·.dst) = some m.d := by
    show (l.toArray[m.key.1]?).bind _ = _
    rw [hoa]; exact hda
  have := h b w' hb h1 (h3 trivial)
  unfold endFrame
  simp only [List.map_cons, List.map_nil, List.foldl_cons, List.foldl_nil]
  rw [e, hV]
  exact this
section pure
variable {P : Program} {ops : Array Oper} {Q : Exit → Act → World → Prop} {a a0 aQ : Act} {w w0 : World} {ms : List Made} {listed : Array Bool} {i : Nat} {o : Oper}
/-- An operation that neither reads memory nor writes it. -/
def pureB (o : Oper) : Bool := match o.op with | .move _ => true | .assign _ => true | .extract _ _ => true | _ => false
theorem step_pure (hB : makeB ops = true) (hq : ∀ w1 : Ext w0, wpQuiet P ops (cls w1.on) (fun a' => a' = aQ) (quietL ops 0) a0)
    (hno : ∀ m ∈ ms, m.op ≠ i ∧ m.store ≠ i) (hJ : J ops w0 a0 aQ ms listed a w) (hi : i ∈ Region.ready .any ops listed) (ho : ops[i]? = some o) (hk : kindOf o = 0) (hp : pureB o = true) (S : World) :
    wpOp P ops Q i (fun a2 w2 => w2 = S ∧ J ops w0 a0 aQ ms (listed.setIfInBounds i true) a2 w) a S := by
  obtain ⟨hun, _⟩ := mem_ready' hi
  have hlt : i < listed.size := by rw [hJ.size]; exact (Array.getElem?_eq_some_iff.1 ho).1
  obtain ⟨V, hV, hF, hL⟩ := hJ.rest
  have hO := makeB_once hB
  obtain ⟨ai, v, hFi, hy, hv⟩ := quiet_each hO (C := cls w) (a0 := a0) (aQ := aQ) (P := P) _ 0 a0 rfl ((Fr.start a0 (valQ ops aQ)).congr (fun j _ => ⟨fun h => h.elim, fun h => absurd h.1 (Nat.not_lt_zero _)⟩) (fun _ h => h.elim)) (hq ⟨w, hJ.below⟩) i o (Nat.zero_le _) ho hk
  have hFi' : Fr ops a0 (fun j => j < i ∧ ∃ o, ops[j]? = some o ∧ kindOf o = 0) V ai := hFi.congr (fun _ _ => Iff.rfl) (fun j h => by obtain ⟨_, o', ho', hz⟩ := h; exact (hV j o' ho' hz).symm)
  have same : ∀ s ∈ o.looksAt ops, a.tmps[s]? = ai.tmps[s]? := fun s hs => hF.agree hFi' fun j oj hj hd => by
    by_cases hij : i = j
    · subst hij
      exact ⟨fun h => absurd h (not_up hun), fun h => absurd h.1 (Nat.lt_irrefl _)⟩
    · obtain ⟨h1, _⟩ := look_up hB hJ.closed hi ho hj hd hs hij
      obtain ⟨hz, hiff⟩ := h1 hk
      exact ⟨fun h => ⟨hiff.1 h, oj, hj, hz⟩, fun h => hiff.2 h.1⟩
  have hsel : ∀ cs b, o.op ≠ .select cs b := by
    have h0 : Region.noSelect ops = true := by simp only [makeB, Bool.and_eq_true] at hB; exact hB.1
    exact fun cs b => Region.noSelect_spec h0 i o cs b ho
  have hvi : valQ ops aQ i = V i := (hV i o ho hk).symm
  have fin : ∀ w', cls w w' → J ops w0 a0 aQ ms (listed.setIfInBounds i true) (a.put o.dst v) w' := fun w' hw' => by
    obtain ⟨g, rfl⟩ := hw'
    refine ⟨by simp [hJ.size], closed_set hJ.size hJ.closed hi, hJ.below.trans (g.below.mono hJ.below.size), V, hV, ?_, ?_⟩
    · rw [put_same (s := V) hF (fun d hd hl => (hv d hd hl).trans hvi)]
      exact (hF.put hO ho).congr (fun j _ => (up_set hlt j).symm) (fun _ _ => rfl)
    · refine ⟨fun m hm hu => ?_, fun m hm m' hm' hu hu' hne => ?_⟩
      · have hu' := ((up_set hlt _).1 hu).resolve_right (hno m hm).1
        obtain ⟨b, hb, h1, h2, h3, h4⟩ := hL.here m hm hu'
        refine ⟨b, hb, h1, Nat.lt_of_lt_of_le h2 g.below.size, fun hf => ?_, fun hf => ?_⟩
        · exact g.block (h3 (((up_set hlt _).1 hf).resolve_right (hno m hm).2))
        · exact g.block (h4 fun hf' => hf ((up_set hlt _).2 (.inl hf')))
      · exact hL.apart m hm m' hm' (((up_set hlt _).1 hu).resolve_right (hno m hm).1) (((up_set hlt _).1 hu').resolve_right (hno m' hm').1) hne
  unfold wpOp
  simp only [ho]
  rw [wanted_same o same]
  have hw0 : cls w w := ⟨⟨w, Below.refl _ _⟩, rfl⟩
  rcases hy with ⟨hw, hqa⟩ | ⟨hw, rfl⟩
  · rw [if_pos hw]
    refine .inl ?_
    have h1 := hqa w hw0
    unfold Oper.quietAt at h1
    rw [← exec_same o hsel same] at h1
    have h2 : (execOp a.eval o).run P S = .ok (.value v) S := by
      unfold pureB at hp
      split at hp
      · rename_i x hop
        unfold execOp at h1 ⊢
        simp only [hop, Sem.run_pure, Oper.quietUpon] at h1 ⊢
        rw [h1.2]
      · rename_i x hop
        unfold execOp at h1 ⊢
        simp only [hop, Sem.run_pure, Oper.quietUpon] at h1 ⊢
        rw [h1.2]
      · rename_i x k hop
        unfold execOp at h1 ⊢
        simp only [hop, Instr.extract] at h1 ⊢
        split at h1
        · rename_i vs hvs
          split at h1
          · rename_i u hu
            simp only [Sem.run_bind, Sem.run_pure, Result.andThen_ok, Oper.quietUpon] at h1 ⊢
            rw [h1.2]
          · simp [Oper.quietUpon, stuck] at h1
        · simp [Oper.quietUpon, stuck] at h1
      · cases hp
    unfold Oper.wp
    rw [h2]
    exact ⟨by first | trivial | rfl, fin w hw0⟩
  · rw [if_neg (by rw [hw]; exact Bool.false_ne_true)]
    exact ⟨by first | trivial | rfl, fin w hw0⟩
theorem quietL_one {l : List Oper} {n : Nat} (h : ((l.take n).all (kindOf · == 0) && ((l.drop n).take 1).all (fun o => !(kindOf o == 0)) && (l.drop (n + 1)).all (kindOf · == 0)) = true) : quietL l.toArray 0 = l.take n ++ l.drop (n + 1) := by
  simp only [Bool.and_eq_true, List.all_eq_true] at h
  obtain ⟨⟨h1, h2⟩, h3⟩ := h
  have e : l = l.take n ++ ((l.drop n).take 1 ++ l.drop (n + 1)) := by
    have h4 : l.drop (n + 1) = (l.drop n).drop 1 := by rw [List.drop_drop]
    rw [h4, List.take_append_drop, List.take_append_drop]
  unfold quietL
  rw [List.drop_zero]
  show l.filter _ = _
  conv => lhs; rw [e]
  rw [List.filter_append, List.filter_append, List.filter_eq_self.2 h1, List.filter_eq_self.2 h3, List.filter_eq_nil_iff.2 (fun o ho => by simpa using h2 o ho), List.nil_append]
/-- What is asked of a region with one store at place n: all else is quiet; what the store doesn't wait for neither reads memory nor writes it. -/
def lastB (l : List Oper) (n : Nat) : Bool :=
  makeB l.toArray && fwdB l.toArray && ((List.range l.toArray.size).all fun j => j == n || (match l.toArray[j]? with | some o => kindOf o == 0 && (waits2 l.toArray n j || pureB o) | none => false)) &&
  (match l.toArray[n]? with | some o => kindOf o == 2 && o.guard.isNone && o.dst.isNone | none => false) &&
  ((l.take n).all (kindOf · == 0) && ((l.drop n).take 1).all (fun o => !(kindOf o == 0)) && (l.drop (n + 1)).all (kindOf · == 0))
theorem region_lastA {l : List Oper} {id : Nat} (n : Nat) (hm : P.follows .mixedOrders = true) (hB : lastB l n = true)
    (hq : ∀ w1 : Ext w.drew, wpQuiet P l.toArray (fun w' => ∃ g : Ext w1.on, w' = g.on) (fun a' => a' = aQ) (l.take n ++ l.drop (n + 1)) a)
    (h : ∀ w' : World, Below w.heap.size w w' → wpList P l.toArray (fun e _ w2 => e = .normal ∧ Q .normal aQ w2) ((l.drop n).take 1) aQ w') : (Code.region id l.toArray true).wp P Q a w := by
  simp only [lastB, Bool.and_eq_true (a := _ && _ && _ && _)] at hB
  rw [Bool.and_eq_true, Bool.and_eq_true, Bool.and_eq_true] at hB
  obtain ⟨⟨⟨hM, hfwd⟩, hall⟩, hlast⟩ := hB.1
  have hqL := quietL_one hB.2
  obtain ⟨on, hon, hkn, hgn, hdn⟩ : ∃ o, l.toArray[n]? = some o ∧ kindOf o = 2 ∧ o.guard = none ∧ o.dst = none := by
    split at hlast
    · rename_i o ho
      simp only [Bool.and_eq_true, beq_iff_eq, Option.isNone_iff_eq_none] at hlast
      exact ⟨o, ho, hlast.1.1, hlast.1.2, hlast.2⟩
    · cases hlast
  have hallj : ∀ j o, l.toArray[j]? = some o → j ≠ n → kindOf o = 0 ∧ (waits2 l.toArray n j = true ∨ pureB o = true) := fun j o ho hj => by
    have := List.all_eq_true.1 hall j (List.mem_range.2 (Array.getElem?_eq_some_iff.1 ho).1)
    simp only [ho, Bool.or_eq_true, beq_iff_eq, Bool.and_eq_true] at this
    exact this.resolve_left hj
  have hq' : ∀ w1 : Ext w.drew, wpQuiet P l.toArray (cls w1.on) (fun a' => a' = aQ) (quietL l.toArray 0) a := fun w1 => by rw [hqL]; exact hq w1
  have hn : n < l.length := by have := (Array.getElem?_eq_some_iff.1 hon).1; simpa using this
  have hdrop : (l.drop n).take 1 = [on] := by
    rw [List.drop_eq_getElem_cons hn, List.take_succ_cons, List.take_zero]
    have : l[n] = on := by
      have h1 : l.toArray[n]? = some l[n] := by simp [hn]
      rw [hon] at h1; exact (Option.some.inj h1).symm
    rw [this]
  have hsel : ∀ cs b, on.op ≠ .select cs b := fun cs b e => by simp [kindOf, e] at hkn
  have hO := makeB_once hM
  refine wp_region_any hm ?_
  refine wpAny_inv (J := fun listed a' w' => listed.size = l.toArray.size ∧ ((¬ up listed n ∧ J l.toArray w.drew a aQ [] listed a' w') ∨ (up listed n ∧ ∃ ws, J l.toArray w.drew a aQ [] listed a' ws ∧ Q .normal aQ w'))) (fun listed a' w' hJ hal => ?_) (fun _ _ _ hJ => hJ.1) (fun listed a' w' hJ hr => ?_) (fun listed a' w' i o hJ hi ho => ?_) _ _ _ _ ?_ ?_
  · rcases hJ.2 with ⟨hu, _⟩ | ⟨_, ws, hJ', hQ⟩
    · exact absurd (hal n (by simpa using hn)) hu
    · obtain ⟨V, hV, hF, _⟩ := hJ'.rest
      have hFQ : Fr l.toArray a (fun j => ∃ o, l.toArray[j]? = some o ∧ kindOf o = 0) V aQ := (aQ_fr hM (hq' ⟨w.drew, Below.refl _ _⟩)).congr (fun _ _ => Iff.rfl) (fun j hj => by obtain ⟨o', ho', hz⟩ := hj; exact (hV j o' ho' hz).symm)
      have e : a' = aQ := by
        obtain ⟨t, d⟩ := a'
        have hag : ∀ s : Nat, t[s]? = aQ.tmps[s]? := fun s => hF.agree hFQ fun j oj hj hdj => by
          refine ⟨fun _ => ⟨oj, hj, ?_⟩, fun _ => hal j (Array.getElem?_eq_some_iff.1 hj).1⟩
          by_cases hjn : j = n
          · subst hjn
            rw [hon] at hj; cases hj
            rw [hdn] at hdj; cases hdj
          · exact (hallj j oj hj hjn).1
        have h1 : t = aQ.tmps := Array.ext_getElem? hag
        have h2 : d = aQ.defers := hF.defers.trans hFQ.defers.symm
        rw [h1, h2]
      rw [e]
      exact hQ
  · have key : ∀ w2, J l.toArray w.drew a aQ [] listed a' w2 → ∀ i, i < l.toArray.size → listed.getD i false = true := fun w2 hJ' => by
      intro i
      induction i using Nat.strongRecOn with
      | _ i ih =>
        intro hi
        apply Classical.byContradiction
        intro hnn
        have hin : i ∈ Region.ready .any l.toArray listed := by
          refine mem_ready.2 ⟨?_, l.toArray[i], Array.getElem?_eq_getElem hi, fun e he hb => ih e.on (fwdB_spec hfwd (Array.getElem?_eq_getElem hi) he hb) (Nat.lt_trans (fwdB_spec hfwd (Array.getElem?_eq_getElem hi) he hb) hi)⟩
          have hl : i < listed.size := by rw [hJ'.size]; exact hi
          simp [hl] at hnn ⊢
          exact hnn
        rw [hr] at hin
        cases hin
    rcases hJ.2 with ⟨_, hJ'⟩ | ⟨_, ws, hJ', _⟩
    · exact key _ hJ'
    · exact key _ hJ'
  · obtain ⟨hun, _⟩ := mem_ready' hi
    have hilt : i < l.toArray.size := (Array.getElem?_eq_some_iff.1 ho).1
    have hlt : i < listed.size := by rw [hJ.1]; exact hilt
    rcases hJ.2 with ⟨hu, hJ'⟩ | ⟨hu, ws, hJ', hQ⟩
    · by_cases hin : i = n
      · subst hin
        rw [hon] at ho; cases ho
        obtain ⟨V, hV, hF, hL⟩ := hJ'.rest
        have hFQ : Fr l.toArray a (fun j => ∃ o, l.toArray[j]? = some o ∧ kindOf o = 0) V aQ := (aQ_fr hM (hq' ⟨w.drew, Below.refl _ _⟩)).congr (fun _ _ => Iff.rfl) (fun j hj => by obtain ⟨o', ho', hz⟩ := hj; exact (hV j o' ho' hz).symm)
        have same : ∀ s ∈ on.looksAt l.toArray, a'.tmps[s]? = aQ.tmps[s]? := fun s hs => hF.agree hFQ fun j oj hj hd => by
          by_cases hij : i = j
          · subst hij
            rw [hon] at hj; cases hj
            rw [hdn] at hd; cases hd
          · have hk := (hallj j oj hj (fun e => hij e.symm)).1
            refine ⟨fun _ => ⟨oj, hj, hk⟩, fun _ => ?_⟩
            have h1 := makeB_pair hM hon hj hij
            simp only [pairB, hd, Bool.and_eq_true, Bool.or_eq_true] at h1
            have h2 := h1.2
            rw [if_neg (by rw [hkn]; decide)] at h2
            simp only [Bool.and_eq_true] at h2
            have h3 := h2.resolve_left (by simpa using hs)
            obtain ⟨o', ho', e, he, hb, hone⟩ := waitsB_spec h3.2
            obtain ⟨_, o2, ho2, hal2⟩ := mem_ready' hi
            rw [ho'] at ho2; cases ho2
            rw [← hone]; exact hal2 e he hb
        have hb0 := hJ'.below
        have hw := h w' ⟨hb0.os, hb0.tape, hb0.output, hb0.size, hb0.block⟩
        rw [hdrop] at hw
        unfold wpList at hw
        have hwt : Region.wanted on (yielded l.toArray aQ.tmps) = true := by unfold Region.wanted; rw [hgn]
        rw [if_pos hwt] at hw
        have hw2 : on.wp P aQ w' (wpList P l.toArray (fun e _ w2 => e = .normal ∧ Q .normal aQ w2) []) (fun e _ w2 => e = .normal ∧ Q .normal aQ w2) := by
          rcases hw with hw | ⟨_, hw⟩
          · exact hw
          · exact absurd hw (by simp [LetsOut])
        unfold wpOp
        simp only [hon]
        rw [wanted_same on same, if_pos hwt]
        refine .inl ?_
        unfold Oper.wp at hw2 ⊢
        rw [exec_same on hsel same]
        have hput : ∀ v, a'.put on.dst v = a' := fun v => by rw [hdn]; rfl
        have fin : ∀ (w2 : World) (a2 : Act), a2 = a' → Q .normal aQ w2 → (listed.setIfInBounds i true).size = l.toArray.size ∧ ((¬ up (listed.setIfInBounds i true) i ∧ J l.toArray w.drew a aQ [] (listed.setIfInBounds i true) a2 w2) ∨ (up (listed.setIfInBounds i true) i ∧ ∃ ws, J l.toArray w.drew a aQ [] (listed.setIfInBounds i true) a2 ws ∧ Q .normal aQ w2)) := fun w2 a2 e hQ => by
          subst e
          refine ⟨by simp [hJ.1], .inr ⟨(up_set hlt i).2 (.inr rfl), w', ⟨by simp [hJ'.size], closed_set hJ'.size hJ'.closed hi, hJ'.below, V, hV, ?_, ⟨fun m hm' => absurd hm' (by simp), fun m hm' => absurd hm' (by simp)⟩⟩, hQ⟩⟩
          have hp := hF.put hO hon
          rw [hput] at hp
          exact hp.congr (fun j _ => (up_set hlt j).symm) (fun _ _ => rfl)
        unfold kindOf at hkn
        split at hkn
        · cases hkn
        · rename_i t p x hop
          unfold execOp at hw2 ⊢
          simp only [hop, Sem.run_bind] at hw2 ⊢
          generalize (Instr.storeAt t (aQ.eval p) (aQ.eval x)).run P w' = r at *
          cases r with
          | ok u w2 =>
            simp only [Result.andThen_ok, Sem.run_pure, Oper.upon, wpList] at hw2 ⊢
            exact fin w2 _ (hput undef) hw2.2
          | halt hh w2 =>
            simp only [Result.andThen] at hw2 ⊢
            cases hh with
            | panic v => simp [Oper.upon] at hw2
            | _ => simp [Oper.upon] at hw2
        · cases hkn
      · refine wpOp_mono (fun a2 w2 hJ2 => ⟨by simp [hJ.1], .inl ⟨fun hu2 => ?_, hJ2⟩⟩) (step_quiet' hM hq' (by simp) hJ' hi ho (hallj i o ho hin).1)
        rcases (up_set hlt n).1 hu2 with hu2 | hu2
        · exact hu hu2
        · exact hin hu2.symm
    · have hin : i ≠ n := fun e => by subst e; exact absurd hu (not_up hun)
      obtain ⟨hk, hpw⟩ := hallj i o ho hin
      have hone : ∀ j, waitsB l.toArray n j = true → up listed j := fun j hw => by
        obtain ⟨o', ho', e, he, hb, hone⟩ := waitsB_spec hw
        rw [← hone]
        exact hJ'.closed n o' ho' hu e he hb
      have hp : pureB o = true := hpw.resolve_left fun h2 => by
        refine absurd ?_ (not_up hun)
        simp only [waits2, Bool.or_eq_true] at h2
        rcases h2 with h2 | h2
        · exact hone i h2
        · obtain ⟨m, _, hm2⟩ := List.any_eq_true.1 h2
          simp only [Bool.and_eq_true] at hm2
          obtain ⟨o', ho', e, he, hb, hon'⟩ := waitsB_spec hm2.2
          rw [← hon']
          exact hJ'.closed m o' ho' (hone m hm2.1) e he hb
      refine wpOp_mono (fun a2 w2 hJ2 => ?_) (step_pure hM hq' (by simp) hJ' hi ho hk hp w')
      obtain ⟨rfl, hJ3⟩ := hJ2
      exact ⟨by simp [hJ.1], .inr ⟨(up_set hlt n).2 (.inl hu), ws, hJ3, hQ⟩⟩
  · simp
  · refine ⟨by simp, .inl ⟨fun hu => ?_, by simp, fun j o _ hu => ?_, Below.refl _ _, valQ l.toArray aQ, fun _ _ _ _ => rfl, (Fr.start a (valQ l.toArray aQ)).congr (fun j hj => ⟨fun h => h.elim, fun hu => ?_⟩) (fun _ h => h.elim), ⟨fun m hm' => absurd hm' (by simp), fun m hm' => absurd hm' (by simp)⟩⟩⟩
    all_goals (unfold up at hu; rw [getD_rep] at hu; cases hu)
end pure
theorem ext2_cell {w : World} (w1 : Ext w.drew) (g : Ext w1.on) {b off : Nat} {v : Value} (h : w.cell? ⟨b, off, none⟩ = some v) : g.on.cell? ⟨b, off, none⟩ = some v := by
  have hlt : b < w.heap.size := by simpa using World.block_lt_of_cell? w _ h
  have h0 : b < w1.on.heap.size := Nat.lt_of_lt_of_le hlt w1.below.size
  rw [g.below.cell (p := ⟨b, off, none⟩) h0, w1.below.cell (p := ⟨b, off, none⟩) hlt]
  exact h
end Go.Proofs.YtdpbjdecbilaeaaGreat
