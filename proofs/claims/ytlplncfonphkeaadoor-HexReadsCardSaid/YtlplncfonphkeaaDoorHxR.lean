/- The statement HexTexts, at as many bytes as it looks at: it returns true, and leaves all older memory as it was. -/
import Derived.Test.YtlplncfonphkeaaDoorHxQ
namespace Go.Proofs.YtlplncfonphkeaaDoor
open Go.RowKit SmWord
set_option maxRecDepth 100000

theorem texts_big (A : Option Addr) (n c a : Nat) (w : World) (hn : 3000 < n) (hm : n ≤ maxLen) :
    Calls Tryd.prog 3 #[.slice A n c, wd a] w fun e w' => e = .returned (.bool true) ∧ Below w.heap.size w w' := by
  have hz := wa_size
  have hm' : n ≤ 9223372036854775807 := hm
  go_enter Tryd.func3, Tryd.ntmps3
  go_wp2_with fail
  have bW : Below w.heap.size w (w.alloc (.cells (wa a) 25)) := (Below.refl _ _).alloc (Nat.le_refl _) _
  refine (fixed_hex _).mono ?_
  rintro e w1 ⟨rfl, b1⟩
  go_wp2_with fail
  go_ret
  exact ⟨rfl, bW.trans (b1.mono bW.size)⟩
set_option maxHeartbeats 4000000 in
theorem texts_walk (A : Option Addr) (n c a : Nat) (f : Nat → Nat) (S Q : ByteArray) (w : World) (hn : n ≤ 3000) (hs : Hid (Sl w A n f))
    (H1 : Hid (∀ w, Sl w A n f → Calls Tryd.prog 7 #[.slice A n c] w fun e w' => e = .returned (.string S) ∧ Below w.heap.size w w'))
    (H2 : Hid (∀ w, Calls Tryd.prog 8 #[wd a] w fun e w' => e = .returned (.string Q) ∧ Below w.heap.size w w'))
    (H3 : Hid (∀ w, Calls Tryd.prog 9 #[.string S] w (BytesOf n f 0 w)))
    (H4 : Hid (∀ w : World, Calls Tryd.prog 10 #[.string Q] w fun e w' => e = .returned (.tuple #[wd a, .int .i64 0]) ∧ Below w.heap.size w w'))
    (H5 : Hid (∀ w, Sl w A n f → Calls Tryd.prog 11 #[.slice A n c] w fun e w' => e = .returned (.string S) ∧ Below w.heap.size w w'))
    (H6 : Hid (∀ w, Calls Tryd.prog 12 #[wd a] w fun e w' => e = .returned (.string Q) ∧ Below w.heap.size w w')) :
    Calls Tryd.prog 3 #[.slice A n c, wd a] w fun e w' => e = .returned (.bool true) ∧ Below w.heap.size w w' := by
  have hz := wa_size
  go_enter Tryd.func3, Tryd.ntmps3
  go_wp2_with fail
  have f0 : (w.alloc (.cells (wa a) 25)).heap[w.heap.size]? = some (.cells (wa a) 25) := heap_alloc_new _ _
  have bW : Below w.heap.size w (w.alloc (.cells (wa a) 25)) := (Below.refl _ _).alloc (Nat.le_refl _) _
  have HB := Lib.hid bW
  have HS := Lib.hid (hs.out.below bW)
  clear bW hz
  generalize w.alloc (.cells (wa a) 25) = W at *
  have H1' := Lib.hid fun g : Ext W => H1.out g.on (HS.out.below g.below)
  refine region_ext (by kernel_rfl) (by kernel_rfl) ?_
  repeat (first | (go_big_quiet_want; refine quiet_load_row 25 _ rfl w.heap.size (wa a) rfl (fun w2 hw2 => by obtain ⟨g, rfl⟩ := hw2; exact g.block f0) Tryd.underlying25 Tryd.infoWa ?_; simp only [Act.put, List.setIfInBounds_toArray, List.set_cons_succ, List.set_cons_zero]; go_big_quiet_on) | go_big_quiet_step (first | (go_at_call 7; exact calls_ext (H1'.out _)) | (go_at_call 8; exact calls_ext (H2.out _))))
  refine wpQuiet_nil ?_
  rintro _ ⟨g, rfl⟩
  have HB := Lib.hid (HB.out.trans (g.below.mono HB.out.size))
  have HS := Lib.hid (HS.out.below g.below)
  have HF := Lib.hid (g.block f0)
  clear H1' f0
  generalize g.on = w1 at *
  clear g
  go_wp2_with fail
  refine (H3.out _).mono ?_
  rintro e w2 ⟨A2, c2, rfl, hs2, b2⟩
  have HB := Lib.hid (HB.out.trans (b2.mono HB.out.size))
  have HS := Lib.hid (HS.out.below b2)
  have HF := Lib.hid (below_of b2 HF.out)
  have HS2 := Lib.hid hs2
  clear b2 hs2
  go_wp2_with fail
  refine (H4.out _).mono ?_
  rintro e w3 ⟨rfl, b3⟩
  have HB := Lib.hid (HB.out.trans (b3.mono HB.out.size))
  have HS := Lib.hid (HS.out.below b3)
  have HS2 := Lib.hid (HS2.out.below b3)
  have HF := Lib.hid (below_of b3 HF.out)
  clear b3
  have hst := store_word w3 a
  go_wp2_with fail
  clear hst
  have hv3 : (w3.alloc (.cells (wa a) 25)).heap[w3.heap.size]? = some (.cells (wa a) 25) := heap_alloc_new _ _
  have HB := Lib.hid (HB.out.alloc HB.out.size (.cells (wa a) 25))
  have HS := Lib.hid (HS.out.below (Joins.below_alloc1 w3 (.cells (wa a) 25)))
  have HS2 := Lib.hid (HS2.out.below (Joins.below_alloc1 w3 (.cells (wa a) 25)))
  have HF := Lib.hid (blk_alloc (o' := .cells (wa a) 25) HF.out)
  generalize w3.alloc (.cells (wa a) 25) = W3 at *
  generalize w3.heap.size = V at *
  have HV := Lib.hid hv3
  clear hv3
  refine (fixed_hex _).mono ?_
  rintro e w4 ⟨rfl, b4⟩
  have HB := Lib.hid (HB.out.trans (b4.mono HB.out.size))
  have HS := Lib.hid (HS.out.below b4)
  have HS2 := Lib.hid (HS2.out.below b4)
  have HV := Lib.hid (below_of b4 HV.out)
  have HF := Lib.hid (below_of b4 HF.out)
  clear b4
  go_wp2_with fail
  refine (H5.out _ HS.out).mono ?_
  rintro e w5 ⟨rfl, b5⟩
  have HB := Lib.hid (HB.out.trans (b5.mono HB.out.size))
  have HS := Lib.hid (HS.out.below b5)
  have HS2 := Lib.hid (HS2.out.below b5)
  have HV := Lib.hid (below_of b5 HV.out)
  have HF := Lib.hid (below_of b5 HF.out)
  clear b5
  go_wp2_with (first | (refine wpList_load_row_if rfl 25 _ rfl _ rfl 25 (wa a) (0, 0) _ HF.out Tryd.underlying25 rfl Tryd.infoWa ?_) | (refine wpList_load_row_if rfl 25 _ rfl _ rfl 25 (wa a) (0, 0) _ HV.out Tryd.underlying25 rfl Tryd.infoWa ?_))
  refine (H6.out _).mono ?_
  rintro e w6 ⟨rfl, b6⟩
  have HB := Lib.hid (HB.out.trans (b6.mono HB.out.size))
  have HS := Lib.hid (HS.out.below b6)
  have HS2 := Lib.hid (HS2.out.below b6)
  have HV := Lib.hid (below_of b6 HV.out)
  have HF := Lib.hid (below_of b6 HF.out)
  clear b6
  have cv1 := conv_sl (c := c) HS.out
  have cv2 := conv_sl (c := c2) HS2.out
  have eg := Tryd.guardWo
  have ee := fun w => equal_wo a w
  generalize str (bs f n) = T at *
  go_wp2_with (first | (refine wpList_load_row_if rfl 25 _ rfl _ rfl 25 (wa a) (0, 0) _ HF.out Tryd.underlying25 rfl Tryd.infoWa ?_) | (refine wpList_load_row_if rfl 25 _ rfl _ rfl 25 (wa a) (0, 0) _ HV.out Tryd.underlying25 rfl Tryd.infoWa ?_))
  go_ret
  exact ⟨rfl, HB.out⟩
end Go.Proofs.YtlplncfonphkeaaDoor
