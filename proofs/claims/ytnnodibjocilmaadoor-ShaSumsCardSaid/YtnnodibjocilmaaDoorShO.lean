/- The statements' walks: the chapter's example; the hash of any bytes; the hash at each length about a multiple of 64. -/
import Derived.Test.YtnnodibjocilmaaDoorShN
import Derived.Test.YtnnodibjocilmaaDoorShJ
import Derived.Lib.SlBytesConst
namespace Go.Proofs.YtnnodibjocilmaaDoor
open Go.RowKit SmWord
set_option maxRecDepth 100000

set_option maxHeartbeats 1000000 in
theorem fixed_core (w : World) (V : Nat → Nat) (h5 : V 0 = 186 ∧ V 1 = 120 ∧ V 2 = 22 ∧ V 30 = 21 ∧ V 31 = 173)
    (H : Hid (∀ (b : Nat) (w : World), Tab w → Sl w (some ⟨b, 0, none⟩) 3 abcF → Calls Tryd.prog 7 #[.slice (some ⟨b, 0, none⟩) 3 3] w fun e w' => e = .returned (.agg (ha V)) ∧ Below w.heap.size w w')) (hT : Tab w) :
    Calls Tryd.prog 5 #[] w fun e w' => e = .returned (.bool true) ∧ Below w.heap.size w w' := by
  have HT := Lib.hid hT
  have H5 := Lib.hid h5
  clear hT h5
  have cv : (convert 22 22 (.slice (some ⟨w.heap.size, 0, none⟩) 3 3)).run Tryd.prog (w.alloc (.cells #[.int .u8 97, .int .u8 98, .int .u8 99] 5)) = .ok (.slice (some ⟨w.heap.size, 0, none⟩) 3 3) (w.alloc (.cells #[.int .u8 97, .int .u8 98, .int .u8 99] 5 (3, 4))) :=
    Lib.run_convert_bytes_const w 22 5 #[.int .u8 97, .int .u8 98, .int .u8 99] 3 3 Tryd.underlying22 Tryd.underlying5
  go_enter Tryd.func5, Tryd.ntmps5
  go_wp2_with fail
  clear cv
  have b0 : Below w.heap.size w (w.alloc (.cells #[.int .u8 97, .int .u8 98, .int .u8 99] 5 (3, 4))) := (Below.refl _ _).alloc (Nat.le_refl _) _
  have hsl : Sl (w.alloc (.cells #[.int .u8 97, .int .u8 98, .int .u8 99] 5 (3, 4))) (some ⟨w.heap.size, 0, none⟩) 3 abcF :=
    ⟨by decide, fun _ => ⟨w.heap.size, 0, rfl, by simp, fun i hi => by
      rw [Nat.zero_add, cell_of_row _ w.heap.size i _ 5 (3, 4) (heap_alloc_new _ _)]
      match i, hi with
      | 0, _ => rfl
      | 1, _ => rfl
      | 2, _ => rfl⟩⟩
  refine (H.out w.heap.size _ (HT.out.below b0) hsl).mono ?_
  rintro e w1 ⟨rfl, b1⟩
  have HB := Lib.hid (b0.trans (b1.mono b0.size))
  clear b1 b0 hsl
  have f1 : ((w1.alloc (.cells zH 30)).setRow w1.heap.size (ha V)).heap[w1.heap.size]? = some (.cells (ha V) 30) := blk_row (heap_alloc_new _ _)
  have bW : Below w.heap.size w ((w1.alloc (.cells zH 30)).setRow w1.heap.size (ha V)) := below_setRow (HB.out.alloc HB.out.size _) HB.out.size _
  clear HB
  go_upto_region 2 with (first | (refine wpList_alloc_row rfl 30 rfl zH zH_run ?_) | (refine wpList_store_row rfl 30 _ _ rfl _ zH (ha V) rfl rfl (heap_alloc_new _ _) (infoArrH _) rfl (arr_one _ _ _) ?_))
  generalize ((w1.alloc (.cells zH 30)).setRow w1.heap.size (ha V)) = W2 at *
  have cc : ∀ i x, i < 32 → V i = x → W2.cell? ⟨w1.heap.size, i, none⟩ = some (.int .u8 ((x : Nat) : Int)) := fun i x hi hx => by
    have := blk_cell f1 (arr_get .u8 (fun i => ((V i : Nat) : Int)) hi)
    simp only [hx] at this
    exact this
  have c0 := cc 0 186 (by decide) H5.out.1
  have c1 := cc 1 120 (by decide) H5.out.2.1
  have c2 := cc 2 22 (by decide) H5.out.2.2.1
  have c30 := cc 30 21 (by decide) H5.out.2.2.2.1
  have c31 := cc 31 173 (by decide) H5.out.2.2.2.2
  have HB := Lib.hid bW
  clear cc f1 bW
  go_wp2_with fail
  go_ret
  exact ⟨rfl, HB.out⟩
theorem fixed_walk (w : World) (hT : Tab w) : Calls Tryd.prog 5 #[] w fun e w' => e = .returned (.bool true) ∧ Below w.heap.size w w' :=
  fixed_core w (shh abcF 3) abc_five (Lib.hid fun b w hT hs => sum_walk _ 3 3 abcF w (by unfold maxLen; omega) (Nat.le_refl _) hT hs) hT
theorem sums_big (A : Option Addr) (n c : Nat) (w : World) (hn : 2000 < n) (hm : n ≤ maxLen) (hT : Tab w) :
    Calls Tryd.prog 3 #[.slice A n c] w fun e w' => e = .returned (.bool true) ∧ Below w.heap.size w w' := by
  have hm' : n ≤ 9223372036854775807 := hm
  have HT := Lib.hid hT
  clear hT
  go_enter Tryd.func3, Tryd.ntmps3
  go_wp2_with fail
  refine (fixed_walk _ HT.out).mono ?_
  rintro e w1 ⟨rfl, b1⟩
  go_wp2_with fail
  go_ret
  exact ⟨rfl, b1⟩
set_option maxHeartbeats 4000000 in
theorem sums_core (A : Option Addr) (n c : Nat) (f H : Nat → Nat) (w : World) (hn : n ≤ 2000) (hA : A = none → n = 0 ∧ c = 0) (hT : Tab w) (hs : Sl w A n f)
    (H1 : Hid (∀ (A : Option Addr) (c : Nat) (w : World), n ≤ c → Tab w → Sl w A n f → Calls Tryd.prog 7 #[.slice A n c] w fun e w' => e = .returned (.agg (ha H)) ∧ Below w.heap.size w w'))
    (H2 : Hid (∀ (A : Option Addr) (c : Nat) (w : World), (A = none → n = 0 ∧ c = 0) → Sl w A n f → Calls Tryd.prog 8 #[.slice A n c, .agg (ka ck), .agg (va ch0)] w fun e w' => e = .returned (.agg (ha H)) ∧ Below w.heap.size w w')) :
    Calls Tryd.prog 3 #[.slice A n c] w fun e w' => e = .returned (.bool true) ∧ Below w.heap.size w w' := by
  have HS := Lib.hid hs
  have HT := Lib.hid hT
  have HA := Lib.hid hA
  clear hs hT hA
  go_enter Tryd.func3, Tryd.ntmps3
  go_wp2_with fail
  refine (const_walk w).mono ?_
  rintro e w1 ⟨rfl, b1⟩
  have HB := Lib.hid b1
  replace HS := Lib.hid (HS.out.below b1)
  replace HT := Lib.hid (HT.out.below b1)
  clear b1
  have f25 : ((w1.alloc (.cells zK 25)).alloc (.cells zV 26)).heap[w1.heap.size]? = some (.cells zK 25) := blk_alloc (heap_alloc_new _ _)
  have f26 : (((w1.alloc (.cells zK 25)).alloc (.cells zV 26)).setRow w1.heap.size (ka ck)).heap[w1.heap.size + 1]? = some (.cells zV 26) := blk_row_other (heap_alloc2_new _ _ _) (by omega)
  have f26' : (((w1.alloc (.cells zK 25)).alloc (.cells zV 26)).setRow w1.heap.size (ka ck)).heap[(w1.alloc (.cells zK 25)).heap.size]? = some (.cells zV 26) := by rw [World.size_alloc]; exact f26
  go_upto_region 4 with (first | (refine wpList_alloc_row rfl 25 rfl zK zK_run ?_) | (refine wpList_alloc_row rfl 26 rfl zV zV_run ?_) | (refine wpList_store_row rfl 25 _ _ rfl _ zK (ka ck) rfl rfl f25 (infoArrK _) rfl (arr_one _ _ _) ?_; refine wpList_store_row rfl 26 _ _ rfl _ zV (va ch0) rfl rfl f26' (infoArrV _) rfl (arr_one _ _ _) ?_))
  simp only [Act.put, List.setIfInBounds_toArray, List.set_cons_succ, List.set_cons_zero, World.size_alloc]
  have gK : ((((w1.alloc (.cells zK 25)).alloc (.cells zV 26)).setRow w1.heap.size (ka ck)).setRow (w1.heap.size + 1) (va ch0)).heap[w1.heap.size]? = some (.cells (ka ck) 25) := blk_row_other (blk_row f25) (by omega)
  have gV : ((((w1.alloc (.cells zK 25)).alloc (.cells zV 26)).setRow w1.heap.size (ka ck)).setRow (w1.heap.size + 1) (va ch0)).heap[w1.heap.size + 1]? = some (.cells (va ch0) 26) := blk_row f26
  have bW : Below w1.heap.size w1 ((((w1.alloc (.cells zK 25)).alloc (.cells zV 26)).setRow w1.heap.size (ka ck)).setRow (w1.heap.size + 1) (va ch0)) := below_setRow (below_setRow (((Below.refl _ _).alloc (Nat.le_refl _) _).alloc (by simp) _) (Nat.le_refl _) _) (by omega) _
  replace HB := Lib.hid (HB.out.trans (bW.mono HB.out.size))
  replace HS := Lib.hid (HS.out.below bW)
  replace HT := Lib.hid (HT.out.below bW)
  have GK := Lib.hid gK
  have GV := Lib.hid gV
  clear f25 f26 f26' bW gK gV
  generalize (((w1.alloc (.cells zK 25)).alloc (.cells zV 26)).setRow w1.heap.size (ka ck)).setRow (w1.heap.size + 1) (va ch0) = W at *
  have bW : Below W.heap.size W (W.alloc (.cells #[] 5)) := (Below.refl _ _).alloc (Nat.le_refl _) _
  have o0 : (W.alloc (.cells #[] 5)).ownsRow W.heap.size 5 1 (.slice (some ⟨W.heap.size, 0, none⟩) 0 0) 0 (bl f 0) :=
    ⟨rfl, .inr ⟨W.heap.size, 0, #[], rfl, Nat.le_refl _, heap_alloc_new _ _, Nat.le_refl _, Nat.zero_le _, rfl, rfl⟩⟩
  have hsl := HS.out.below bW
  go_upto_region 5 with (at_builtin; refine append_sl rfl _ _ rfl W.heap.size _ 0 (bl f 0) rfl o0 A n c f rfl HA.out hsl (by omega) (by simp) ?_; intro v1 w2 hown hgrow)
  rw [Nat.zero_add, show bl f 0 ++ bl f n = bl f n from List.nil_append _] at hown
  have hb1 : Below W.heap.size W w2 := bW.grown hgrow (by simp) (fun b hb' => by have := (o0.lt b hb').1; omega)
  obtain ⟨A1, c1, rfl, hc1, hs1⟩ := own_sl hown HS.out.small
  replace HB := Lib.hid (HB.out.trans (hb1.mono HB.out.size))
  replace HT := Lib.hid (HT.out.below hb1)
  replace HS := Lib.hid (HS.out.below hb1)
  replace GK := Lib.hid (stay hb1 GK.out)
  replace GV := Lib.hid (stay hb1 GV.out)
  have HS1 := Lib.hid hs1
  clear hown hgrow bW o0 hsl hb1 hs1
  generalize w1.heap.size = kb at *
  have e1 := fun w => equal_ha H w
  have g1 := Tryd.guardH
  have v1 := fun g : Ext w2 => conv_sl (c := c1) (HS1.out.below g.below)
  have v2 := fun g : Ext w2 => conv_sl (c := c) (HS.out.below g.below)
  have k1 := Lib.hid fun g : Ext w2 => H1.out A1 c1 g.on hc1 (HT.out.below g.below) (HS1.out.below g.below)
  have k2 := Lib.hid fun g : Ext w2 => H2.out A c g.on HA.out (HS.out.below g.below)
  generalize str (bs f n) = Sx at *
  refine region_ext (by kernel_rfl) (by kernel_rfl) ?_
  repeat (first | (go_big_quiet_want; refine quiet_load_row 25 _ rfl kb (ka ck) rfl (fun w2 hw2 => by obtain ⟨g, rfl⟩ := hw2; exact g.block GK.out) Tryd.underlying25 (infoArrK _) ?_; simp only [Act.put, List.setIfInBounds_toArray, List.set_cons_succ, List.set_cons_zero]; go_big_quiet_on) | (go_big_quiet_want; refine quiet_load_row 26 _ rfl (kb + 1) (va ch0) rfl (fun w2 hw2 => by obtain ⟨g, rfl⟩ := hw2; exact g.block GV.out) Tryd.underlying26 (infoArrV _) ?_; simp only [Act.put, List.setIfInBounds_toArray, List.set_cons_succ, List.set_cons_zero]; go_big_quiet_on) | go_big_quiet_step (first | (go_at_call 5; exact calls_ext (fixed_walk _ (HT.out.below (Ext.below _)))) | (go_at_call 7; exact calls_ext (k1.out _)) | (go_at_call 8; exact calls_ext (k2.out _))))
  refine wpQuiet_nil ?_
  rintro _ ⟨g, rfl⟩
  go_wp2_with fail
  go_ret
  exact ⟨rfl, HB.out.trans (g.below.mono HB.out.size)⟩
theorem sums_walk (A : Option Addr) (n c : Nat) (f : Nat → Nat) (w : World) (hm : n ≤ maxLen) (hA : A = none → n = 0 ∧ c = 0) (hT : Tab w) (hs : Sl w A n f) :
    Calls Tryd.prog 3 #[.slice A n c] w fun e w' => e = .returned (.bool true) ∧ Below w.heap.size w w' := by
  by_cases h : 2000 < n
  · exact sums_big A n c w h hm hT
  · exact sums_core A n c f (shh f n) w (by omega) hA hT hs (Lib.hid fun A c w hc hT hs => sum_walk A n c f w hm hc hT hs) (Lib.hid fun A c w hA hs => rsum_walk A n c f w (by omega) hA hs)
end Go.Proofs.YtnnodibjocilmaaDoor
