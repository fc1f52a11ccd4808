/- The chapter's examples, as the function fixed of the statements puts them together: it returns true, and leaves all older memory as it was. -/
import Derived.Test.YtlplncfonphkeaaDoorHxJ
namespace Go.Proofs.YtlplncfonphkeaaDoor
open Go.RowKit SmWord
set_option maxRecDepth 100000

theorem ex_form (d : List UInt8) : ¬ wform [48, 120, 48, 49, 48, 48] d := by
  rintro ⟨h, _, _, h4⟩
  simp only [List.cons.injEq, true_and] at h
  have := h4 [49, 48, 48] h.symm
  cases this
theorem ex_word (w : World) : Calls Tryd.prog 10 #[.string ⟨#[48, 120, 48, 49, 48, 48]⟩] w fun e w' => e = .returned (.tuple #[wd 0, .int .i64 2]) ∧ Below w.heap.size w w' :=
  hword_no [48, 120, 48, 49, 48, 48] w (by decide) ex_form
theorem ex_text (b c : Nat) (w : World) (hb : w.heap[b]? = some (.cells #[.int .u8 1, .int .u8 255] 5)) :
    Calls Tryd.prog 7 #[.slice (some ⟨b, 0, none⟩) 2 c] w fun e w' => e = .returned (.string ⟨#[48, 120, 48, 49, 102, 102]⟩) ∧ Below w.heap.size w w' := by
  have hs : Sl w (some ⟨b, 0, none⟩) 2 (fun i => if i = 0 then 1 else 255) := ⟨fun i _ => by show (if i = 0 then 1 else 255) < 256; split <;> decide, fun _ => ⟨b, 0, rfl, (Array.getElem?_eq_some_iff.1 hb).1, fun i hi => by
    rw [Nat.zero_add]
    refine blk_cell hb ?_
    match i, hi with
    | 0, _ => rfl
    | 1, _ => rfl⟩⟩
  have h := text_walk _ 2 c _ w (by decide) (Lib.hid hs)
  have e : str (48 :: 120 :: tx (fun i => if i = 0 then 1 else 255) 2) = ⟨#[48, 120, 48, 49, 102, 102]⟩ := by decide
  rw [e] at h
  exact h
theorem ex_digits : str (48 :: 120 :: st (wdig 256)) = ⟨#[48, 120, 49, 48, 48]⟩ := by decide
theorem ex_quantity (w : World) : Calls Tryd.prog 8 #[.agg #[.int .u64 256, .int .u64 0, .int .u64 0, .int .u64 0]] w fun e w' => e = .returned (.string ⟨#[48, 120, 49, 48, 48]⟩) ∧ Below w.heap.size w w' := by
  have h := quantity_wd 256 w
  rw [ex_digits] at h
  exact h
theorem store_word (w : World) (m : Nat) : (storeCells ⟨w.heap.size, 0, none⟩ (wa m).toList 0).run Tryd.prog (w.alloc (.cells #[.int .u64 0, .int .u64 0, .int .u64 0, .int .u64 0] 25)) = .ok () (w.alloc (.cells (wa m) 25)) :=
  run_storeCells_new (P := Tryd.prog) w 25 _ (wa m) (by rw [Tryd.infoWa (n := m), wa_size]) rfl (by simp [wa, Value.oneCell'])
set_option maxHeartbeats 1000000 in
theorem fixed_hex (w : World) : Calls Tryd.prog 6 #[] w fun e w' => e = .returned (.bool true) ∧ Below w.heap.size w w' := by
  go_enter Tryd.func6, Tryd.ntmps6
  go_wp2_with fail
  refine (ex_word _).mono ?_
  rintro e w1 ⟨rfl, b1⟩
  have HB := Lib.hid b1
  clear b1
  have hst := store_word w1 0
  go_wp2_with fail
  clear hst
  have HB1 := Lib.hid ((HB.out.alloc HB.out.size (.cells (wa 0) 25)).alloc (by have := HB.out.size; simp; omega) (.cells #[Value.int .u8 1, .int .u8 255] 5))
  clear HB
  refine (ex_text _ 2 _ (heap_alloc2_new _ _ _)).mono ?_
  rintro e w2 ⟨rfl, b2⟩
  have HB2 := Lib.hid (HB1.out.trans (b2.mono HB1.out.size))
  clear b2 HB1
  go_wp2_with fail
  refine (ex_quantity _).mono ?_
  rintro e w3 ⟨rfl, b3⟩
  have HB3 := Lib.hid (HB2.out.trans (b3.mono HB2.out.size))
  clear b3 HB2
  go_wp2_with fail
  go_ret
  exact ⟨rfl, HB3.out⟩
end Go.Proofs.YtlplncfonphkeaaDoor
