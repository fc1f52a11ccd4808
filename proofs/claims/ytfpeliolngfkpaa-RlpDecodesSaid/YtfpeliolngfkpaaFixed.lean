/- The chapter's examples, as the function fixed of the statements puts them together: it returns true, and leaves all older memory as it was. -/
import Derived.Test.YtfpeliolngfkpaaWordC
import Derived.Test.YtfpeliolngfkpaaShiftN
namespace Go.Proofs.Ytfpeliolngfkpaa
open Go.RowKit SmWord
set_option maxRecDepth 100000

theorem Try.infoW : (Try.prog.info? 39).map (·.size) = some 4 := by kernel_rfl
theorem store_new (w : World) (m : Nat) : (storeCells ⟨w.heap.size, 0, none⟩ (wa m).toList 0).run Try.prog (w.alloc (.cells #[.int .u64 0, .int .u64 0, .int .u64 0, .int .u64 0] 39)) = .ok () (w.alloc (.cells (wa m) 39)) :=
  run_storeCells_new (P := Try.prog) w 39 _ (wa m) Try.infoW rfl (by simp [wa, Value.oneCell'])

def kAll : Nat := M - 1
def k255 : Nat := 1 * 2 ^ 255
def k256 : Nat := k255 * 2
def k63 : Nat := B % M / 2 ^ 1
def kNot : Nat := M - 1 - 0 % M
theorem fx_len (w : World) : Calls Try.prog 39 #[wd 256] w fun e w' => e = .returned (.int .i64 9) ∧ Below w.heap.size w w' :=
  len_walk0 256 0 0 0 9 w (by decide) (by decide) (by decide) (by decide) (by decide) (by decide) (fun w => len64_nat 256 w (by decide))
theorem fx_e1 (w : World) : (Op.equalIn 10000 39 (.agg (wa kAll)) (.agg (wa kNot))).run Try.prog w = .ok true w := by
  rw [equal_wa, decide_eq_true (by decide)]
theorem fx_e2 (w : World) : (Op.equalIn 10000 39 (.agg (wa k256)) (.agg #[.int .u64 0, .int .u64 0, .int .u64 0, .int .u64 0])).run Try.prog w = .ok true w := by
  have := equal_wa k256 0 w
  rw [decide_eq_true (by decide)] at this
  exact this
theorem fx_e3 (w : World) : (Op.equalIn 10000 39 (.agg (wa k63)) (.agg (wa 9223372036854775808))).run Try.prog w = .ok true w := by
  rw [equal_wa, decide_eq_true (by decide)]

theorem fold_wa (n : Nat) : #[Value.int .u64 ((l0 n : Nat) : Int), .int .u64 ((l1 n : Nat) : Int), .int .u64 ((l2 n : Nat) : Int), .int .u64 ((l3 n : Nat) : Int)] = wa n := rfl
/-- The four cells of a word that lies, wherever the world has come to. -/
theorem Ext.word {w : World} (g : Ext w) {b m : Nat} {t : TypeId} {fr : Nat × Nat} (hb : w.heap[b]? = some (.cells (wa m) t fr)) :
    g.on.cell? ⟨b, 0, none⟩ = some (.int .u64 ((l0 m : Nat) : Int)) ∧ g.on.cell? ⟨b, 1, none⟩ = some (.int .u64 ((l1 m : Nat) : Int)) ∧
    g.on.cell? ⟨b, 2, none⟩ = some (.int .u64 ((l2 m : Nat) : Int)) ∧ g.on.cell? ⟨b, 3, none⟩ = some (.int .u64 ((l3 m : Nat) : Int)) := by
  have h := g.block hb
  exact ⟨cell_of_row _ _ 0 _ _ _ h, cell_of_row _ _ 1 _ _ _ h, cell_of_row _ _ 2 _ _ _ h, cell_of_row _ _ 3 _ _ _ h⟩

/-- A block that lies stays, whatever is made behind it. -/
theorem Below.stays {w w' : World} (h : Below w.heap.size w w') {b : Nat} {o : Obj} (hb : w.heap[b]? = some o) : w'.heap[b]? = some o := by
  rw [h.block b (Array.getElem?_eq_some_iff.1 hb).1, hb]

end Go.Proofs.Ytfpeliolngfkpaa
