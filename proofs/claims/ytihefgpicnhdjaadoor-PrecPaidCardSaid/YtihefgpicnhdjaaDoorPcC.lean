/- What the document's hash of an input does: with the constants. -/
import Derived.Test.YtihefgpicnhdjaaDoorPcB
import Derived.Test.YtihefgpicnhdjaaDoorGf
namespace Go.Proofs.YtihefgpicnhdjaaDoor
open Go.RowKit SmWord
set_option maxRecDepth 100000

theorem empty_own (w : World) {base : Nat} (hb : base ≤ w.heap.size) : (w.alloc (.cells #[] 5)).ownsRow base 5 1 (.slice (some ⟨w.heap.size, 0, none⟩) 0 0) 0 [] :=
  ⟨rfl, .inr ⟨w.heap.size, 0, #[], rfl, hb, heap_alloc_new _ _, Nat.le_refl _, Nat.zero_le _, rfl, rfl⟩⟩
/-- What answers a slice of m bytes. -/
def OutIs (m : Nat) (g : Nat → Nat) (w : World) (e : Ending) (w' : World) : Prop := ∃ A c, e = .returned (.slice A m c) ∧ Sl w' A m g ∧ Below w.heap.size w w'
set_option maxHeartbeats 4000000 in
theorem rhash_core (L c : Nat) (H : Nat → Nat) (A : Option Addr) (w : World) (hH : ∀ i, H i < 256)
    (HR : Hid (∀ w', Below w.heap.size w w' → Calls Tryd.prog 24 #[.slice A L c, .agg (ka ck), .agg (va ch0)] w' fun e w'' => e = .returned (.agg (ha H)) ∧ Below w'.heap.size w' w'')) :
    Calls Tryd.prog 14 #[.slice A L c] w (OutIs 32 H w) := by
  have HH := Lib.hid hH
  clear hH
  go_enter Tryd.func14, Tryd.ntmps14
  go_wp2_with fail
  refine (const_walk w).mono ?_
  rintro e w1 ⟨rfl, b1⟩
  have HB := Lib.hid b1
  clear b1
  have f25 : ((w1.alloc (.cells zK 48)).alloc (.cells zVQ 49)).heap[w1.heap.size]? = some (.cells zK 48) := blk_alloc (heap_alloc_new _ _)
  have f26 : (((w1.alloc (.cells zK 48)).alloc (.cells zVQ 49)).setRow w1.heap.size (ka ck)).heap[w1.heap.size + 1]? = some (.cells zVQ 49) := blk_row_other (heap_alloc2_new _ _ _) (by omega)
  have f26' : (((w1.alloc (.cells zK 48)).alloc (.cells zVQ 49)).setRow w1.heap.size (ka ck)).heap[(w1.alloc (.cells zK 48)).heap.size]? = some (.cells zVQ 49) := by rw [World.size_alloc]; exact f26
  go_upto_region 2 with (first | (refine wpList_alloc_row rfl 48 rfl zK zK_run ?_) | (refine wpList_alloc_row rfl 49 rfl zVQ zV_run ?_) | (refine wpList_store_row rfl 48 _ _ rfl _ zK (ka ck) rfl rfl f25 (infoArrK _) rfl (arr_one _ _ _) ?_; refine wpList_store_row rfl 49 _ _ rfl _ zVQ (va ch0) rfl rfl f26' (infoArrV _) rfl (arr_one _ _ _) ?_))
  simp only [Act.put, List.setIfInBounds_toArray, List.set_cons_succ, List.set_cons_zero, World.size_alloc]
  have gK : ((((w1.alloc (.cells zK 48)).alloc (.cells zVQ 49)).setRow w1.heap.size (ka ck)).setRow (w1.heap.size + 1) (va ch0)).heap[w1.heap.size]? = some (.cells (ka ck) 48) := blk_row_other (blk_row f25) (by omega)
  have gV : ((((w1.alloc (.cells zK 48)).alloc (.cells zVQ 49)).setRow w1.heap.size (ka ck)).setRow (w1.heap.size + 1) (va ch0)).heap[w1.heap.size + 1]? = some (.cells (va ch0) 49) := blk_row f26
  have bW : Below w1.heap.size w1 ((((w1.alloc (.cells zK 48)).alloc (.cells zVQ 49)).setRow w1.heap.size (ka ck)).setRow (w1.heap.size + 1) (va ch0)) := below_setRow (below_setRow (((Below.refl _ _).alloc (Nat.le_refl _) _).alloc (by simp) _) (Nat.le_refl _) _) (by omega) _
  replace HB := Lib.hid (HB.out.trans (bW.mono HB.out.size))
  have GK := Lib.hid gK
  have GV := Lib.hid gV
  clear f25 f26 f26' bW gK gV
  generalize (((w1.alloc (.cells zK 48)).alloc (.cells zVQ 49)).setRow w1.heap.size (ka ck)).setRow (w1.heap.size + 1) (va ch0) = W at *
  generalize w1.heap.size = kb at *
  go_upto_region 3 with (first | (refine wpList_load_row rfl 48 _ rfl _ rfl 48 (ka ck) (0, 0) _ GK.out Tryd.underlying48 rfl (infoArrK _) ?_) | (refine wpList_load_row rfl 49 _ rfl _ rfl 49 (va ch0) (0, 0) _ GV.out Tryd.underlying49 rfl (infoArrV _) ?_) | (go_at_call 24; refine (HR.out _ HB.out).mono ?_; rintro e w2 ⟨rfl, b2⟩; replace HB := Lib.hid (HB.out.trans (b2.mono HB.out.size)); clear b2) | (refine wpList_alloc_row rfl 42 rfl zH zH_run ?_) | (refine wpList_store_row rfl 42 (.tmp 5) _ rfl _ zH (ha H) rfl rfl (heap_alloc_new _ _) (infoArrH _) rfl (arr_one _ _ _) ?_))
  rw [World.setRow_alloc_new]
  simp only [Act.put, List.setIfInBounds_toArray, List.set_cons_succ, List.set_cons_zero]
  have f3 : (w2.alloc (.cells (ha H) 42)).heap[w2.heap.size]? = some (.cells (ha H) 42) := heap_alloc_new _ _
  have bW : Below w.heap.size w (w2.alloc (.cells (ha H) 42)) := HB.out.alloc HB.out.size _
  replace HB := Lib.hid bW
  have HS := Lib.hid (sl_cells f3 fun i _ => HH.out i)
  clear f3 bW GK GV
  generalize w2.alloc (.cells (ha H) 42) = w3 at *
  generalize w2.heap.size = b2 at *
  have e1 := empty_own w3 HB.out.size
  have be1 : Below w.heap.size w (w3.alloc (.cells #[] 5)) := HB.out.alloc HB.out.size _
  have z1 : w3.heap.size ≤ (w3.alloc (.cells #[] 5)).heap.size := by simp
  have S1 := HS.out.below (w' := w3.alloc (.cells #[] 5)) ((Below.refl _ _).alloc (Nat.le_refl _) _)
  have zb := be1.size
  go_wp2_with (at_builtin; refine append_sl rfl _ _ rfl w.heap.size _ 0 [] rfl e1 _ 32 32 H rfl (fun h => by cases h) S1 (by omega) zb ?_; intro v1 x1 o1 q1; refine Hid.out ?_)
  have bx1 : Below w.heap.size w x1 := be1.grown q1 zb (fun b hb' => (e1.lt b hb').1)
  rw [Nat.zero_add, List.nil_append] at o1
  obtain ⟨Y, d, rfl, hd, hY, sy⟩ := own_sl o1 fun i _ => HH.out i
  clear e1 be1 z1 S1 q1 o1 zb
  refine Lib.hid ?_
  go_wp2_with fail
  go_ret
  exact ⟨_, _, rfl, sy, bx1⟩
theorem rhash_walk (L c : Nat) (f : Nat → Nat) (A : Option Addr) (w : World) (hL : L ≤ 100000) (hA : A = none → L = 0 ∧ c = 0) (hs : Sl w A L f) :
    Calls Tryd.prog 14 #[.slice A L c] w (OutIs 32 (shh f L) w) :=
  rhash_core L c _ A w (shh_lt f L) (Lib.hid fun w' hb => rsum_walk A L c f w' hL hA (hs.below hb))
end Go.Proofs.YtihefgpicnhdjaaDoor
