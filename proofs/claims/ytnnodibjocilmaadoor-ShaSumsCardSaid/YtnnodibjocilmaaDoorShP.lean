/- The statement ShaEnds at every two bytes. -/
import Derived.Test.YtnnodibjocilmaaDoorShO
namespace Go.Proofs.YtnnodibjocilmaaDoor
open Go.RowKit SmWord
set_option maxRecDepth 100000

/-- What is written: c, c + 1, .. -/
def en (c i : Nat) : Nat := (c + i) % 256
def ek (c k i : Nat) : Nat := if i < k then en c i else 0
theorem ek_next (c m : Nat) {k : Nat} (h : k < m) : (arr .u8 m (fun i => ((ek c k i : Nat) : Int))).setIfInBounds k (.int .u8 ((en c k : Nat) : Int)) = arr .u8 m (fun i => ((ek c (k + 1) i : Nat) : Int)) := by
  rw [arr_set _ _ _ h]
  refine arr_congr fun i _ => ?_
  unfold ek
  by_cases e : i = k
  · subst e; simp
  · by_cases l : i < k
    · simp [e, l, show i < k + 1 by omega]
    · simp [e, l, show ¬ i < k + 1 by omega]
set_option maxHeartbeats 4000000 in
theorem ends_core (n c m : Nat) (H : Nat → Nat) (w : World) (hn : n < 256) (hm : 50 + (n : Int) % 32 = (m : Int)) (hm6 : m ≤ 82) (hT : Tab w)
    (H1 : Hid (∀ (b : Nat) (w : World), Tab w → Sl w (some ⟨b, 0, none⟩) m (en c) → Calls Tryd.prog 7 #[.slice (some ⟨b, 0, none⟩) m m] w fun e w' => e = .returned (.agg (ha H)) ∧ Below w.heap.size w w'))
    (H2 : Hid (∀ (b : Nat) (w : World), Sl w (some ⟨b, 0, none⟩) m (en c) → Calls Tryd.prog 8 #[.slice (some ⟨b, 0, none⟩) m m, .agg (ka ck), .agg (va ch0)] w fun e w' => e = .returned (.agg (ha H)) ∧ Below w.heap.size w w')) :
    Calls Tryd.prog 4 #[.int .u8 (n : Int), .int .u8 (c : Int)] w fun e w' => e = .returned (.bool true) ∧ Below w.heap.size w w' := by
  have HT := Lib.hid hT
  clear hT
  go_enter Tryd.func4, Tryd.ntmps4
  go_wp2_with fail
  refine (const_walk w).mono ?_
  rintro e w1 ⟨rfl, b1⟩
  have HB := Lib.hid b1
  replace HT := Lib.hid (HT.out.below b1)
  clear b1
  have f25 : ((w1.alloc (.cells zK 25)).alloc (.cells zV 26)).heap[w1.heap.size]? = some (.cells zK 25) := blk_alloc (heap_alloc_new _ _)
  have f26 : (((w1.alloc (.cells zK 25)).alloc (.cells zV 26)).setRow w1.heap.size (ka ck)).heap[w1.heap.size + 1]? = some (.cells zV 26) := blk_row_other (heap_alloc2_new _ _ _) (by omega)
  have f26' : (((w1.alloc (.cells zK 25)).alloc (.cells zV 26)).setRow w1.heap.size (ka ck)).heap[(w1.alloc (.cells zK 25)).heap.size]? = some (.cells zV 26) := by rw [World.size_alloc]; exact f26
  go_upto_region 2 with (first | (refine wpList_alloc_row rfl 25 rfl zK zK_run ?_) | (refine wpList_alloc_row rfl 26 rfl zV zV_run ?_) | (refine wpList_store_row rfl 25 _ _ rfl _ zK (ka ck) rfl rfl f25 (infoArrK _) rfl (arr_one _ _ _) ?_; refine wpList_store_row rfl 26 _ _ rfl _ zV (va ch0) rfl rfl f26' (infoArrV _) rfl (arr_one _ _ _) ?_))
  simp only [Act.put, List.setIfInBounds_toArray, List.set_cons_succ, List.set_cons_zero, World.size_alloc]
  have gK : ((((w1.alloc (.cells zK 25)).alloc (.cells zV 26)).setRow w1.heap.size (ka ck)).setRow (w1.heap.size + 1) (va ch0)).heap[w1.heap.size]? = some (.cells (ka ck) 25) := blk_row_other (blk_row f25) (by omega)
  have gV : ((((w1.alloc (.cells zK 25)).alloc (.cells zV 26)).setRow w1.heap.size (ka ck)).setRow (w1.heap.size + 1) (va ch0)).heap[w1.heap.size + 1]? = some (.cells (va ch0) 26) := blk_row f26
  have bW : Below w1.heap.size w1 ((((w1.alloc (.cells zK 25)).alloc (.cells zV 26)).setRow w1.heap.size (ka ck)).setRow (w1.heap.size + 1) (va ch0)) := below_setRow (below_setRow (((Below.refl _ _).alloc (Nat.le_refl _) _).alloc (by simp) _) (Nat.le_refl _) _) (by omega) _
  replace HB := Lib.hid (HB.out.trans (bW.mono HB.out.size))
  replace HT := Lib.hid (HT.out.below bW)
  have GK := Lib.hid gK
  have GV := Lib.hid gV
  clear f25 f26 f26' bW gK gV
  generalize (((w1.alloc (.cells zK 25)).alloc (.cells zV 26)).setRow w1.heap.size (ka ck)).setRow (w1.heap.size + 1) (va ch0) = W at *
  have hmk := Tryd.make_bytes m (by omega) W
  have bW : Below W.heap.size W (W.alloc (.cells (arr .u8 m (fun _ => 0)) 5)) := (Below.refl _ _).alloc (Nat.le_refl _) _
  have f0 : (W.alloc (.cells (arr .u8 m (fun _ => 0)) 5)).heap[W.heap.size]? = some (.cells (arr .u8 m (fun i => ((ek c 0 i : Nat) : Int))) 5) := heap_alloc_new _ _
  have hWk : w1.heap.size + 1 < W.heap.size := (Array.getElem?_eq_some_iff.1 GV.out).1
  have hWw := HB.out.size
  go_wp2_with fail
  replace HB := Lib.hid (HB.out.trans (bW.mono HB.out.size))
  replace HT := Lib.hid (HT.out.below bW)
  replace GK := Lib.hid (stay bW GK.out)
  replace GV := Lib.hid (stay bW GV.out)
  have F0 := Lib.hid f0
  clear hmk bW f0
  obtain ⟨g, hg⟩ : ∃ g, W.heap.size = g := ⟨_, rfl⟩
  rw [hg] at F0 hWk hWw ⊢
  generalize W.alloc (.cells (arr .u8 m (fun _ => 0)) 5) = W2 at *
  clear hg
  generalize w1.heap.size = kb at *
  go_loopw [20] (fun i wr => ∃ k : Nat, k ≤ m ∧ i = .int .i64 k ∧ Hid (Below w.heap.size w wr) ∧ Hid (Tab wr) ∧ Hid (wr.heap[kb]? = some (.cells (ka ck) 25)) ∧ Hid (wr.heap[kb + 1]? = some (.cells (va ch0) 26)) ∧ Hid (wr.heap[g]? = some (.cells (arr .u8 m (fun i => ((ek c k i : Nat) : Int))) 5))) (fun i _ => m - (intOf i).toNat)
  case atStart => exact ⟨0, by omega, rfl, HB, HT, GK, GV, F0⟩
  case round =>
    clear HB HT GK GV F0
    obtain ⟨k, hk, rfl, HB, HT, GK, GV, F0⟩ := hrel
    by_cases hlt : k < m
    · have c0 := blk_cell F0.out (arr_get .u8 (fun i => ((ek c k i : Nat) : Int)) hlt)
      have fz := blk_frozen (j := k) F0.out
      have h1 := HT.out.one
      go_wp2_with fail
      rw [show ((c : Int) + (k : Int)) % 256 = ((en c k : Nat) : Int) by unfold en; omega]
      refine ⟨⟨k + 1, by omega, by go_num, Lib.hid (HB.out.setCell (by simp; omega) _), Lib.hid (HT.out.wrote (Wrote.put _ _) (by omega)), Lib.hid (blk_other GK.out (by omega) _), Lib.hid (blk_other GV.out (by omega) _), Lib.hid ?_⟩, by simp [intOf]; omega⟩
      rw [← ek_next c m hlt]
      exact blk_set F0.out _
    · obtain rfl : k = m := by omega
      have hf : Sl wr (some ⟨g, 0, none⟩) k (en c) := ⟨fun i _ => Nat.mod_lt _ (by decide), fun _ => ⟨g, 0, rfl, (Array.getElem?_eq_some_iff.1 F0.out).1, fun i hi => by
        rw [Nat.zero_add]
        have := blk_cell F0.out (arr_get .u8 (fun i => ((ek c k i : Nat) : Int)) hi)
        rwa [show ek c k i = en c i by rw [ek, if_pos hi]] at this⟩⟩
      have HS := Lib.hid hf
      have e1 := fun w => equal_ha H w
      have g1 := Tryd.guardH
      clear F0 hf
      go_wp2_with fail
      have k1 := Lib.hid fun g' : Ext wr => H1.out g g'.on (HT.out.below g'.below) (HS.out.below g'.below)
      have k2 := Lib.hid fun g' : Ext wr => H2.out g g'.on (HS.out.below g'.below)
      refine region_ext (by kernel_rfl) (by kernel_rfl) ?_
      repeat (first | (go_big_quiet_want; refine quiet_load_row 25 _ rfl kb (ka ck) rfl (fun w2 hw2 => by obtain ⟨g, rfl⟩ := hw2; exact g.block GK.out) Tryd.underlying25 (infoArrK _) ?_; simp only [Act.put, List.setIfInBounds_toArray, List.set_cons_succ, List.set_cons_zero]; go_big_quiet_on) | (go_big_quiet_want; refine quiet_load_row 26 _ rfl (kb + 1) (va ch0) rfl (fun w2 hw2 => by obtain ⟨g, rfl⟩ := hw2; exact g.block GV.out) Tryd.underlying26 (infoArrV _) ?_; simp only [Act.put, List.setIfInBounds_toArray, List.set_cons_succ, List.set_cons_zero]; go_big_quiet_on) | go_big_quiet_step (first | (go_at_call 5; exact calls_ext (fixed_walk _ (HT.out.below (Ext.below _)))) | (go_at_call 7; exact calls_ext (k1.out _)) | (go_at_call 8; exact calls_ext (k2.out _))))
      refine wpQuiet_nil ?_
      rintro _ ⟨g', rfl⟩
      go_wp2_with fail
      go_ret
      exact ⟨rfl, HB.out.trans (g'.below.mono HB.out.size)⟩
theorem ends_walk (n c : Nat) (w : World) (hn : n < 256) (hT : Tab w) :
    Calls Tryd.prog 4 #[.int .u8 (n : Int), .int .u8 (c : Int)] w fun e w' => e = .returned (.bool true) ∧ Below w.heap.size w w' :=
  ends_core n c (50 + n % 32) (shh (en c) (50 + n % 32)) w hn (by omega) (by omega) hT (Lib.hid fun b w hT hs => sum_walk _ _ _ _ w (by unfold maxLen; omega) (Nat.le_refl _) hT hs) (Lib.hid fun b w hs => rsum_walk _ _ _ _ w (by omega) (fun h => by cases h) hs)
end Go.Proofs.YtnnodibjocilmaaDoor
