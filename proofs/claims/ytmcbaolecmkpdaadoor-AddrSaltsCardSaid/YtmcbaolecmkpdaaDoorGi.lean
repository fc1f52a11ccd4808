/- The statement AddrSalts at every address, salt and code: it returns true. -/
import Derived.Test.YtmcbaolecmkpdaaDoorGg
namespace Go.Proofs.YtmcbaolecmkpdaaDoor
open Go.RowKit SmWord
set_option maxRecDepth 100000

set_option maxHeartbeats 1000000 in
theorem salts_big (f : Nat → Nat) (m : Nat) (A : Option Addr) (n c : Nat) (w : World) (hn : 3000 < n) (hm : n ≤ maxLen) (hT : Tab w) :
    Calls Tryd.prog 5 #[.agg (aa f), wd m, .slice A n c] w fun e w' => e = .returned (.bool true) ∧ Below w.heap.size w w' := by
  have hm' : n ≤ 9223372036854775807 := hm
  have HT := Lib.hid hT
  clear hT
  have bW : Below w.heap.size w ((w.alloc (.cells (aa f) 23)).alloc (.cells (wa m) 26)) := ((Below.refl _ _).alloc (Nat.le_refl _) _).alloc (by simp) _
  go_enter Tryd.func5, Tryd.ntmps5
  go_wp2_with fail
  generalize ((w.alloc (.cells (aa f) 23)).alloc (.cells (wa m) 26)) = W at *
  refine (afixed_walk _ (HT.out.below bW)).mono ?_
  rintro e w1 ⟨rfl, b1⟩
  have HB := Lib.hid (bW.trans (b1.mono bW.size))
  clear b1 bW
  go_wp2_with fail
  go_ret
  exact ⟨rfl, HB.out⟩
set_option maxHeartbeats 2000000 in
theorem salts_core (f g X : Nat → Nat) (m n c : Nat) (A : Option Addr) (w : World) (hn : n ≤ 3000) (hA : A = none → n = 0 ∧ c = 0) (hT : Tab w) (hs : Sl w A n g)
    (H1 : Hid (∀ (A : Option Addr) (c : Nat) (w : World), n ≤ c → Tab w → Sl w A n g → Calls Tryd.prog 14 #[.agg (aa f), wd m, .slice A n c] w fun e w' => e = .returned (.agg (aa X)) ∧ Below w.heap.size w w'))
    (H2 : Hid (∀ (A : Option Addr) (c : Nat) (w : World), (A = none → n = 0 ∧ c = 0) → Sl w A n g → Calls Tryd.prog 15 #[.agg (aa f), wd m, .slice A n c] w fun e w' => e = .returned (.agg (aa X)) ∧ Below w.heap.size w w')) :
    Calls Tryd.prog 5 #[.agg (aa f), wd m, .slice A n c] w fun e w' => e = .returned (.bool true) ∧ Below w.heap.size w w' := by
  have HS := Lib.hid hs
  have HT := Lib.hid hT
  have HA := Lib.hid hA
  clear hs hT hA
  have g0 : (((w.alloc (.cells (aa f) 23)).alloc (.cells (wa m) 26)).alloc (.cells #[] 5)).heap[w.heap.size]? = some (.cells (aa f) 23) := blk_alloc (blk_alloc (heap_alloc_new _ _))
  have g1 : (((w.alloc (.cells (aa f) 23)).alloc (.cells (wa m) 26)).alloc (.cells #[] 5)).heap[w.heap.size + 1]? = some (.cells (wa m) 26) := blk_alloc (heap_alloc2_new _ _ _)
  have bV : Below w.heap.size w ((w.alloc (.cells (aa f) 23)).alloc (.cells (wa m) 26)) := ((Below.refl _ _).alloc (Nat.le_refl _) _).alloc (by simp) _
  have bW : Below w.heap.size w (((w.alloc (.cells (aa f) 23)).alloc (.cells (wa m) 26)).alloc (.cells #[] 5)) := bV.alloc bV.size _
  have o0 := own_none ((w.alloc (.cells (aa f) 23)).alloc (.cells (wa m) 26)) (base := ((w.alloc (.cells (aa f) 23)).alloc (.cells (wa m) 26)).heap.size) (Nat.le_refl _)
  have hz : ((w.alloc (.cells (aa f) 23)).alloc (.cells (wa m) 26)).heap.size = w.heap.size + 1 + 1 := by simp
  rw [hz] at o0
  have hzz : w.heap.size + 1 + 1 ≤ (((w.alloc (.cells (aa f) 23)).alloc (.cells (wa m) 26)).alloc (.cells #[] 5)).heap.size := by simp
  have hsl := HS.out.below bW
  go_enter Tryd.func5, Tryd.ntmps5
  go_upto_region 4 with (at_builtin; refine append_sl rfl _ _ rfl (w.heap.size + 1 + 1) _ 0 [] rfl o0 A n c g rfl HA.out hsl (by omega) hzz ?_; intro v1 w1 hown hgrow)
  rw [Nat.zero_add, List.nil_append] at hown
  have hb1 : Below w.heap.size w w1 := bW.grown hgrow (by omega) (fun b hb' => by have := (o0.lt b hb').1; omega)
  have hb2 : Below (w.heap.size + 1 + 1) (((w.alloc (.cells (aa f) 23)).alloc (.cells (wa m) 26)).alloc (.cells #[] 5)) w1 := (Below.refl _ _).grown hgrow hzz (fun b hb' => (o0.lt b hb').1)
  have f0 := (hb2.block w.heap.size (by omega)).trans g0
  have f1 := (hb2.block (w.heap.size + 1) (by omega)).trans g1
  obtain ⟨A1, c1, rfl, hc1, _, hs1⟩ := own_sl hown HS.out.small
  replace HT := Lib.hid (HT.out.below hb1)
  replace HS := Lib.hid (HS.out.below hb1)
  have HS1 := Lib.hid hs1
  have HB := Lib.hid hb1
  have HC := Lib.hid hc1
  clear hown hgrow bW bV o0 hz hzz hsl hb1 hb2 hs1 hc1 g0 g1
  have v1 := fun g : Ext w1 => conv_sl (c := c1) (HS1.out.below g.below)
  have v2 := fun g : Ext w1 => conv_sl (c := c) (HS.out.below g.below)
  generalize str (bs g n) = S at *
  have e2 := fun w => equal_aa X w
  have q1 := Tryd.guardA
  refine region_ext (by kernel_rfl) (by kernel_rfl) ?_
  repeat (first | (go_big_quiet_want; refine quiet_load_row 23 _ rfl (w.heap.size) (aa f) rfl (fun w2 hw2 => by obtain ⟨g, rfl⟩ := hw2; exact g.block f0) Tryd.underlying23 (infoArrA _) ?_; simp only [Act.put, List.setIfInBounds_toArray, List.set_cons_succ, List.set_cons_zero]; go_big_quiet_on) | (go_big_quiet_want; refine quiet_load_row 26 _ rfl (w.heap.size + 1) (wa m) rfl (fun w2 hw2 => by obtain ⟨g, rfl⟩ := hw2; exact g.block f1) Tryd.underlying26 Tryd.infoWa ?_; simp only [Act.put, List.setIfInBounds_toArray, List.set_cons_succ, List.set_cons_zero]; go_big_quiet_on) | go_big_quiet_step (first | (go_at_call 7; exact calls_ext (afixed_walk _ (HT.out.below (Ext.below _)))) | (go_at_call 14; exact calls_ext (H1.out _ _ _ HC.out (HT.out.below (Ext.below _)) (HS1.out.below (Ext.below _)))) | (go_at_call 15; exact calls_ext (H2.out _ _ _ HA.out (HS.out.below (Ext.below _))))))
  refine wpQuiet_nil ?_
  rintro _ ⟨g, rfl⟩
  go_wp2_with fail
  go_ret
  exact ⟨rfl, HB.out.trans (g.below.mono HB.out.size)⟩
theorem salts_walk (f g : Nat → Nat) (m n c : Nat) (A : Option Addr) (w : World) (hf : ∀ i, i < 20 → f i < 256) (hm : n ≤ maxLen) (hA : A = none → n = 0 ∧ c = 0) (hT : Tab w) (hs : Sl w A n g) :
    Calls Tryd.prog 5 #[.agg (aa f), wd m, .slice A n c] w fun e w' => e = .returned (.bool true) ∧ Below w.heap.size w w' := by
  by_cases h : 3000 < n
  · exact salts_big f m A n c w h hm hT
  · exact salts_core f g (ad2 f (fun i => dig m (31 - i)) g n) m n c A w (by omega) hA hT hs (Lib.hid fun A c w hc hT hs => create2_walk f g m n c A w hf hm hc hT hs) (Lib.hid fun A c w hA hs => rcreate2_walk f g m n c A w hf (by omega) hA hs)
end Go.Proofs.YtmcbaolecmkpdaaDoor
