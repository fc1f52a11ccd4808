/- The chapter's examples, as the function fixed of the statements puts them together: it returns true, and leaves all older memory as it was. -/
import Derived.Test.YtlobchkbkdjccaaWordC
import Derived.Test.YtlobchkbkdjccaaShiftN
namespace Go.Proofs.Ytlobchkbkdjccaa
open Go.RowKit SmWord
set_option maxRecDepth 100000

theorem Try.infoW : (Try.prog.info? 24).map (·.size) = some 4 := by kernel_rfl
theorem store_new (w : World) (m : Nat) : (storeCells ⟨w.heap.size, 0, none⟩ (wa m).toList 0).run Try.prog (w.alloc (.cells #[.int .u64 0, .int .u64 0, .int .u64 0, .int .u64 0] 24)) = .ok () (w.alloc (.cells (wa m) 24)) :=
  run_storeCells_new (P := Try.prog) w 24 _ (wa m) Try.infoW rfl (by simp [wa, Value.oneCell'])

def kAll : Nat := M - 1
def k255 : Nat := 1 * 2 ^ 255
def k256 : Nat := k255 * 2
def k63 : Nat := B % M / 2 ^ 1
def kNot : Nat := M - 1 - 0 % M
theorem fx_sub (w : World) : Calls Try.prog 37 #[wd 0, wd 1] w fun e w' => e = .returned (wd kAll) ∧ Below w.heap.size w w' := sub_wd 0 1 kAll w (by decide)
theorem fx_shl (w : World) : Calls Try.prog 40 #[wd 1, .int .u64 255] w fun e w' => e = .returned (wd k255) ∧ Below w.heap.size w w' := shl_wd 1 255 (by decide) w
theorem fx_shr (w : World) : Calls Try.prog 41 #[.agg #[.int .u64 0, .int .u64 1, .int .u64 0, .int .u64 0], .int .u64 1] w fun e w' => e = .returned (wd k63) ∧ Below w.heap.size w w' := shr_wd B 1 (by decide) w
theorem fx_not (w : World) : Calls Try.prog 42 #[.agg #[.int .u64 0, .int .u64 0, .int .u64 0, .int .u64 0]] w fun e w' => e = .returned (wd kNot) ∧ Below w.heap.size w w' := not_wd 0 w
theorem fx_len (w : World) : Calls Try.prog 53 #[wd 256] w fun e w' => e = .returned (.int .i64 9) ∧ Below w.heap.size w w' :=
  len_walk0 256 0 0 0 9 w (by decide) (by decide) (by decide) (by decide) (by decide) (by decide) (fun w => len64_nat 256 w (by decide))
theorem fx_e1 (w : World) : (Op.equalIn 10000 24 (.agg (wa kAll)) (.agg (wa kNot))).run Try.prog w = .ok true w := by
  rw [equal_wa, decide_eq_true (by decide)]
theorem fx_e2 (w : World) : (Op.equalIn 10000 24 (.agg (wa k256)) (.agg #[.int .u64 0, .int .u64 0, .int .u64 0, .int .u64 0])).run Try.prog w = .ok true w := by
  have := equal_wa k256 0 w
  rw [decide_eq_true (by decide)] at this
  exact this
theorem fx_e3 (w : World) : (Op.equalIn 10000 24 (.agg (wa k63)) (.agg (wa 9223372036854775808))).run Try.prog w = .ok true w := by
  rw [equal_wa, decide_eq_true (by decide)]

theorem fold_wa (n : Nat) : #[Value.int .u64 ((l0 n : Nat) : Int), .int .u64 ((l1 n : Nat) : Int), .int .u64 ((l2 n : Nat) : Int), .int .u64 ((l3 n : Nat) : Int)] = wa n := rfl
/-- The four cells of a word that lies, wherever the world has come to. -/
theorem Ext.word {w : World} (g : Ext w) {b m : Nat} {t : TypeId} {fr : Nat × Nat} (hb : w.heap[b]? = some (.cells (wa m) t fr)) :
    g.on.cell? ⟨b, 0, none⟩ = some (.int .u64 ((l0 m : Nat) : Int)) ∧ g.on.cell? ⟨b, 1, none⟩ = some (.int .u64 ((l1 m : Nat) : Int)) ∧
    g.on.cell? ⟨b, 2, none⟩ = some (.int .u64 ((l2 m : Nat) : Int)) ∧ g.on.cell? ⟨b, 3, none⟩ = some (.int .u64 ((l3 m : Nat) : Int)) := by
  have h := g.block hb
  exact ⟨cell_of_row _ _ 0 _ _ _ h, cell_of_row _ _ 1 _ _ _ h, cell_of_row _ _ 2 _ _ _ h, cell_of_row _ _ 3 _ _ _ h⟩

/-- A block that lies stays, whatever is made behind it. -/
theorem Below.stays {w w' : World} (h : Below w.heap.size w w') {b : Nat} {o : Obj} (hb : w.heap[b]? = some o) : w'.heap[b]? = some o := by
  rw [h.block b (Array.getElem?_eq_some_iff.1 hb).1, hb]

end Go.Proofs.Ytlobchkbkdjccaa
