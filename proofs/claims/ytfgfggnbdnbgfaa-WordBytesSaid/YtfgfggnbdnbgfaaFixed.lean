/- The chapter's examples, as the function fixed of the statements puts them together: it returns true, and leaves all older memory as it was. -/
import Derived.Test.YtfgfggnbdnbgfaaWordC
import Derived.Test.YtfgfggnbdnbgfaaShiftN
namespace Go.Proofs.Ytfgfggnbdnbgfaa
open Go.RowKit SmWord
set_option maxRecDepth 100000

theorem Try.infoW : (Try.prog.info? 24).map (·.size) = some 4 := by kernel_rfl
theorem store_new (w : World) (m : Nat) : (storeCells ⟨w.heap.size, 0, none⟩ (wa m).toList 0).run Try.prog (w.alloc (.cells #[.int .u64 0, .int .u64 0, .int .u64 0, .int .u64 0] 24)) = .ok () (w.alloc (.cells (wa m) 24)) :=
  run_storeCells_new (P := Try.prog) w 24 _ (wa m) Try.infoW rfl (by simp [wa, Value.oneCell'])

def kAll : Nat := M - 1
def k255 : Nat := 1 * 2 ^ 255
def k256 : Nat := k255 * 2
def k63 : Nat := B % M / 2 ^ 1
def kNot : Nat := M - 1 - 0 % M
theorem fx_sub (w : World) : Calls Try.prog 16 #[wd 0, wd 1] w fun e w' => e = .returned (wd kAll) ∧ Below w.heap.size w w' := sub_wd 0 1 kAll w (by decide)
theorem fx_shl (w : World) : Calls Try.prog 25 #[wd 1, .int .u64 255] w fun e w' => e = .returned (wd k255) ∧ Below w.heap.size w w' := shl_wd 1 255 (by decide) w
theorem fx_mul (w : World) : Calls Try.prog 18 #[wd k255, wd 2] w fun e w' => e = .returned (wd k256) ∧ Below w.heap.size w w' := mul_wd k255 2 w
theorem fx_shr (w : World) : Calls Try.prog 27 #[.agg #[.int .u64 0, .int .u64 1, .int .u64 0, .int .u64 0], .int .u64 1] w fun e w' => e = .returned (wd k63) ∧ Below w.heap.size w w' := shr_wd B 1 (by decide) w
theorem fx_not (w : World) : Calls Try.prog 24 #[.agg #[.int .u64 0, .int .u64 0, .int .u64 0, .int .u64 0]] w fun e w' => e = .returned (wd kNot) ∧ Below w.heap.size w w' := not_wd 0 w
theorem fx_len (w : World) : Calls Try.prog 38 #[wd 256] w fun e w' => e = .returned (.int .i64 9) ∧ Below w.heap.size w w' :=
  len_walk0 256 0 0 0 9 w (by decide) (by decide) (by decide) (by decide) (by decide) (by decide) (fun w => len64_nat 256 w (by decide))
theorem fx_e1 (w : World) : (Op.equalIn 10000 24 (.agg (wa kAll)) (.agg (wa kNot))).run Try.prog w = .ok true w := by
  rw [equal_wa, decide_eq_true (by decide)]
theorem fx_e2 (w : World) : (Op.equalIn 10000 24 (.agg (wa k256)) (.agg #[.int .u64 0, .int .u64 0, .int .u64 0, .int .u64 0])).run Try.prog w = .ok true w := by
  have := equal_wa k256 0 w
  rw [decide_eq_true (by decide)] at this
  exact this
theorem fx_e3 (w : World) : (Op.equalIn 10000 24 (.agg (wa k63)) (.agg (wa 9223372036854775808))).run Try.prog w = .ok true w := by
  rw [equal_wa, decide_eq_true (by decide)]

theorem fold_wa (n : Nat) : #[Value.int .u64 ((l0 n : Nat) : Int), .int .u64 ((l1 n : Nat) : Int), .int .u64 ((l2 n : Nat) : Int), .int .u64 ((l3 n : Nat) : Int)] = wa n := rfl
/-- The four cells of a word that lies, wherever the world has come to. -/
theorem Ext.word {w : World} (g : Ext w) {b m : Nat} {t : TypeId} {fr : Nat × Nat} (hb : w.heap[b]? = some (.cells (wa m) t fr)) :
    g.on.cell? ⟨b, 0, none⟩ = some (.int .u64 ((l0 m : Nat) : Int)) ∧ g.on.cell? ⟨b, 1, none⟩ = some (.int .u64 ((l1 m : Nat) : Int)) ∧
    g.on.cell? ⟨b, 2, none⟩ = some (.int .u64 ((l2 m : Nat) : Int)) ∧ g.on.cell? ⟨b, 3, none⟩ = some (.int .u64 ((l3 m : Nat) : Int)) := by
  have h := g.block hb
  exact ⟨cell_of_row _ _ 0 _ _ _ h, cell_of_row _ _ 1 _ _ _ h, cell_of_row _ _ 2 _ _ _ h, cell_of_row _ _ 3 _ _ _ h⟩

/-- A block that lies stays, whatever is made behind it. -/
theorem Below.stays {w w' : World} (h : Below w.heap.size w w') {b : Nat} {o : Obj} (hb : w.heap[b]? = some o) : w'.heap[b]? = some o := by
  rw [h.block b (Array.getElem?_eq_some_iff.1 hb).1, hb]

set_option maxHeartbeats 1000000 in
theorem fixed_walk (w : World) :
    Calls Try.prog 12 #[] w fun e w' => e = .returned (.bool true) ∧ Below w.heap.size w w' := by
  have hs := store_new
  have hz := wa_size
  go_enter Try.func12, Try.ntmps12
  go_wp2_with fail
  refine (of_wd 1 _ (by decide)).mono ?_
  rintro e w1 ⟨rfl, b1⟩
  go_wp2_with fail
  refine (fx_sub _).mono ?_
  rintro e w2 ⟨rfl, b2⟩
  go_wp2_with fail
  refine (of_wd 1 _ (by decide)).mono ?_
  rintro e w3 ⟨rfl, b3⟩
  go_wp2_with fail
  refine (fx_shl _).mono ?_
  rintro e w4 ⟨rfl, b4⟩
  go_wp2_with fail
  refine (of_wd 2 _ (by decide)).mono ?_
  rintro e w5 ⟨rfl, b5⟩
  go_wp2_with fail
  refine (fx_mul _).mono ?_
  rintro e w6 ⟨rfl, b6⟩
  go_wp2_with fail
  refine (fx_shr _).mono ?_
  rintro e w7 ⟨rfl, b7⟩
  go_wp2_with fail
  have f1 : (w7.alloc (.cells (wa k63) 24)).heap[w2.heap.size]? = some (.cells (wa kAll) 24) :=
    Below.stays ((Below.refl _ _).alloc (Nat.le_refl _) _) (Below.stays b7 (Below.stays ((Below.refl _ _).alloc (Nat.le_refl _) _) (Below.stays b6 (Below.stays b5 (Below.stays b4 (Below.stays b3 (heap_alloc_new _ _)))))))
  have f2 : (w7.alloc (.cells (wa k63) 24)).heap[w6.heap.size]? = some (.cells (wa k256) 24) :=
    Below.stays ((Below.refl _ _).alloc (Nat.le_refl _) _) (Below.stays b7 (heap_alloc_new _ _))
  have f3 : (w7.alloc (.cells (wa k63) 24)).heap[w7.heap.size]? = some (.cells (wa k63) 24) := heap_alloc_new _ _
  have bW : Below w.heap.size w (w7.alloc (.cells (wa k63) 24)) := by
    have s1 := b1.size
    have s2 := b2.size
    have s3 := b3.size
    have s4 := b4.size
    have s5 := b5.size
    have s6 := b6.size
    have s7 := b7.size
    simp only [World.size_alloc] at s3 s7
    refine Below.alloc (b1.trans ((b2.mono (by omega)).trans ?_)) (by omega) _
    refine ((Below.refl _ _).alloc (by omega) _).trans ((b3.mono (by simp only [World.size_alloc]; omega)).trans ((b4.mono (by omega)).trans ((b5.mono (by omega)).trans ((b6.mono (by omega)).trans ?_))))
    exact ((Below.refl _ _).alloc (by omega) _).trans (b7.mono (by simp only [World.size_alloc]; omega))
  generalize w7.alloc (.cells (wa k63) 24) = W at *
  have g1 := fun g : Ext W => g.word f1
  have g2 := fun g : Ext W => g.word f2
  have g3 := fun g : Ext W => g.word f3
  have fo := fold_wa
  have e1 := fx_e1
  have e2 := fx_e2
  have e3 := fx_e3
  have eg := Try.guardW
  clear f1 f2 f3 hs hz
  refine region_ext (by kernel_rfl) (by kernel_rfl) ?_
  repeat (go_big_quiet_step (first | (go_at_call 24; exact calls_ext (fx_not _)) | (go_at_call 38; exact calls_ext (fx_len _)) | (go_at_call 33; first | exact calls_ext (of_wd 256 _ (by decide)) | exact calls_ext (of_wd 9223372036854775808 _ (by decide)))))
  refine wpQuiet_nil ?_
  rintro _ ⟨g, rfl⟩
  go_wp2
  go_ret
  exact ⟨rfl, bW.trans (g.below.mono bW.size)⟩
end Go.Proofs.Ytfgfggnbdnbgfaa
