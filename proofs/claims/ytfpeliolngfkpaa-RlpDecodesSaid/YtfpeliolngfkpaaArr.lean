/- Laws of the model that this seat's proofs lean on: arrays of integers by value (equality, whole loads), and regions whose operations read, and call functions that only make new memory. -/
import Derived.Test.YtfpeliolngfkpaaWordA
import Derived.DeepKeys
import Derived.Deep.WholeRow
import Derived.BigQuiet
namespace Go.Proofs.Ytfpeliolngfkpaa
open Go.RowKit SmWord
set_option maxRecDepth 100000

/-- A world in which all that lay in w lies as it lay. -/
structure Ext (w : World) where
  on : World
  below : Below w.heap.size w on

instance (w : World) : Nonempty (Ext w) := ⟨⟨w, Below.refl _ _⟩⟩

theorem region_ext {P : Program} {id : Nat} {Q : Exit → Act → World → Prop} {a : Act} {w : World} {l : List Oper} (hm : P.follows .mixedOrders = true) (hB : Region.lexB .any l.toArray = true)
    (h : wpQuiet P l.toArray (fun w' => ∃ g : Ext w, w' = g.on) (fun a' => ∀ w', (∃ g : Ext w, w' = g.on) → Q .normal a' w') l a) : (Code.region id l.toArray true).wp P Q a w :=
  wp_region_quiet (C := fun w' => ∃ g : Ext w, w' = g.on) hm hB ⟨⟨w.drew, (Below.refl _ _).drew⟩, rfl⟩ (by simpa using h)

theorem calls_ext {P : Program} {f : FuncId} {args : Array Value} {w : World} {g : Ext w} {v : Value}
    (h : Calls P f args g.on fun e w' => e = .returned v ∧ Below g.on.heap.size g.on w') : Calls P f args g.on fun e w'' => e = .returned v ∧ ∃ g' : Ext w, w'' = g'.on :=
  h.mono fun _ w'' ⟨he, hb⟩ => ⟨he, ⟨w'', g.below.trans (hb.mono g.below.size)⟩, rfl⟩

theorem Ext.block {w : World} (g : Ext w) {b : Nat} {o : Obj} (hb : w.heap[b]? = some o) : g.on.heap[b]? = some o := by
  rw [g.below.block b (Array.getElem?_eq_some_iff.1 hb).1, hb]

theorem load_row {P : Program} (w : World) (b : Nat) (t : TypeId) (c : Array Value) (fr : Nat × Nat) (n : Nat) (hn : c.size = n) (hb : w.heap[b]? = some (.cells c t fr)) :
    (loadCellsFrom ⟨b, 0, none⟩ 0 n #[]).run P w = .ok c w := by
  subst hn
  have := run_loadCells_list (P := P) w ⟨b, 0, none⟩ c.toList (fun j v hv => by
    have hadd : (⟨b, 0, none⟩ : Addr).add j = ⟨b, j, none⟩ := by unfold Addr.add; split <;> simp_all
    rw [hadd, cell_of_row _ _ j c t fr hb]
    simpa using hv)
  simpa [loadCells] using this

/-- Arrays of integers, compared. -/
theorem eqItems_ints {P : Program} {e : TypeId} {k k' : IntKind} (he : P.underlying e = some (.int k')) (d : Nat) (xs ys : Array Value) (w : World) : ∀ is : List Nat,
    (∀ i ∈ is, ∃ a b : Int, xs[i]? = some (.int k a) ∧ ys[i]? = some (.int k b)) →
    ∃ r : Bool, (Op.eqItems (d + 1) e 1 xs ys is).run P w = .ok r w ∧ (r = true ↔ ∀ i ∈ is, xs[i]? = ys[i]?)
  | [], _ => ⟨true, by simp [Op.eqItems], by simp⟩
  | i :: is, h => by
    obtain ⟨a, b, ha, hb⟩ := h i (by simp)
    obtain ⟨r, hr, hiff⟩ := eqItems_ints he d xs ys w is (fun j hj => h j (by simp [hj]))
    have hp : P.plainKey e = true := by unfold Program.plainKey; simp [he]
    have p1 : (part e xs (i * 1)).run P w = .ok (.int k a) w := run_part_plain w hp (by simpa using ha)
    have p2 : (part e ys (i * 1)).run P w = .ok (.int k b) w := run_part_plain w hp (by simpa using hb)
    simp only [Op.eqItems, Sem.run_bind, p1, p2, Result.andThen_ok, run_equalIn_int w d e k k' a b he]
    by_cases hab : a = b
    · subst hab
      refine ⟨r, by simpa using hr, ?_⟩
      rw [hiff]
      simp [ha, hb]
    · refine ⟨false, by simp [hab], ?_⟩
      simp [ha, hb, hab]

theorem equal_ints {P : Program} {t e : TypeId} {n : Nat} {k k' : IntKind} (hu : P.underlying t = some (.array n e)) (he : P.underlying e = some (.int k')) (hc : P.cellsOf e = 1)
    (xs ys : Array Value) (hx : xs.size = n) (hy : ys.size = n) (h : ∀ i, i < n → ∃ a b : Int, xs[i]? = some (.int k a) ∧ ys[i]? = some (.int k b)) (w : World) :
    ∃ r : Bool, (Op.equalIn 10000 t (.agg xs) (.agg ys)).run P w = .ok r w ∧ (r = true ↔ xs = ys) := by
  obtain ⟨i, hi⟩ := info_of_underlying he
  obtain ⟨r, hr, hiff⟩ := eqItems_ints he 9998 xs ys w (List.range n) (fun j hj => h j (List.mem_range.1 hj))
  refine ⟨r, by rw [show (10000 : Nat) = 9999 + 1 from rfl, run_equalIn_array w 9999 xs ys hu hi, hc]; exact hr, hiff.trans ⟨fun H => ?_, fun H => by simp [H]⟩⟩
  apply Array.ext_getElem?
  intro j
  by_cases hj : j < n
  · exact H j (List.mem_range.2 hj)
  · rw [Array.getElem?_eq_none (by omega), Array.getElem?_eq_none (by omega)]

theorem Try.cells37 : Try.prog.cellsOf 37 = 1 := by kernel_rfl
theorem wa_size (n : Nat) : (wa n).size = 4 := rfl
theorem wa_get (n : Nat) (i : Nat) (hi : i < 4) : ∃ a : Int, (wa n)[i]? = some (.int .u64 a) := by
  have : i = 0 ∨ i = 1 ∨ i = 2 ∨ i = 3 := by omega
  rcases this with rfl | rfl | rfl | rfl
  · exact ⟨_, rfl⟩
  · exact ⟨_, rfl⟩
  · exact ⟨_, rfl⟩
  · exact ⟨_, rfl⟩
theorem equal_wa (m n : Nat) (w : World) : (Op.equalIn 10000 39 (.agg (wa m)) (.agg (wa n))).run Try.prog w = .ok (decide (m % M = n % M)) w := by
  obtain ⟨r, hr, hiff⟩ := equal_ints (k := .u64) Try.underlying39 Try.underlying37 Try.cells37 (wa m) (wa n) (wa_size m) (wa_size n) (fun i hi => by
    obtain ⟨a, ha⟩ := wa_get m i hi
    obtain ⟨b, hb⟩ := wa_get n i hi
    exact ⟨a, b, ha, hb⟩) w
  rw [hr]
  congr 1
  rw [Bool.eq_iff_iff, hiff, decide_eq_true_iff]
  exact ⟨wa_inj, wa_congr⟩
end Go.Proofs.Ytfpeliolngfkpaa
