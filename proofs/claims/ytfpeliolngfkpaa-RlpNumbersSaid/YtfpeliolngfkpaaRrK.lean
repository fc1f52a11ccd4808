/- What Encode of package rlp does. -/
import Derived.Test.YtfpeliolngfkpaaRrJ
namespace Go.Proofs.Ytfpeliolngfkpaa
open Go.RowKit SmWord
set_option maxRecDepth 100000

/-- What is written of a node by itself. -/
def pc (x : Nd) (m : Ms) : List Nat := (if x.by'.length = 1 ∧ x.by'.getD 0 0 < 128 then [] else hea m.inn (if x.ls then 64 else 0)) ++ x.by'
def pcs (F : Fo) : List (List Nat) := List.zipWith pc (rows F) (meas F)
theorem pcs_all : ∀ F, (pcs F).flatten = wrs F
  | .no => rfl
  | .st b nx => by
    have h := pcs_all nx
    unfold pcs at h
    rw [pcs, rows, meas, List.zipWith_cons_cons, List.flatten_cons, h, wrs]
    congr 1
    unfold pc ws
    simp only
    split <;> rfl
  | .li k nx => by
    have h1 := pcs_all k
    have h2 := pcs_all nx
    unfold pcs at h1 h2
    rw [pcs, rows, meas, List.zipWith_cons_cons, List.zipWith_append (meas_length k).symm, List.flatten_cons, List.flatten_append, h1, h2, wrs]
    simp [pc]
theorem pcs_len (F : Fo) : (pcs F).length = (rows F).length := by simp [pcs, meas_length]
theorem pcs_get {F : Fo} {i : Nat} {x : Nd} (hx : (rows F)[i]? = some x) : ∃ m, (meas F)[i]? = some m ∧ (pcs F)[i]? = some (pc x m) := by
  have hlt := (List.getElem?_eq_some_iff.1 hx).1
  have hm : i < (meas F).length := by rw [meas_length]; exact hlt
  refine ⟨(meas F)[i], List.getElem?_eq_getElem hm, ?_⟩
  rw [pcs, List.getElem?_zipWith, hx, List.getElem?_eq_getElem hm]
/-- What is written of the first i nodes. -/
def wri (F : Fo) (i : Nat) : List Nat := ((pcs F).take i).flatten
theorem wri_step {F : Fo} {i : Nat} {x : Nd} {m : Ms} (h : (pcs F)[i]? = some (pc x m)) : wri F (i + 1) = wri F i ++ pc x m := by
  obtain ⟨hlt, e⟩ := List.getElem?_eq_some_iff.1 h
  rw [wri, List.take_add_one, List.getElem?_eq_getElem hlt, e, List.flatten_append]
  simp [wri]
theorem wri_end (F : Fo) : wri F (rows F).length = wrs F := by rw [wri, ← pcs_len, List.take_length, pcs_all]
theorem wri_le (F : Fo) (i : Nat) : (wri F i).length ≤ (wrs F).length := by
  have : wrs F = wri F i ++ ((pcs F).drop i).flatten := by rw [← pcs_all, wri, ← List.flatten_append, List.take_append_drop]
  rw [this, List.length_append]
  omega
theorem meas_inn (F : Fo) : ∀ (i : Nat) (x : Nd) (m : Ms), (rows F)[i]? = some x → (meas F)[i]? = some m → m.inn ≤ wt (rows F) + (wrs F).length := by
  induction F with
  | no => intro i x m h; simp [rows] at h
  | st b nx ih =>
    intro i x m h1 h2
    cases i with
    | zero =>
      simp only [rows, meas, List.getElem?_cons_zero, Option.some.injEq] at h1 h2
      subst h1 h2
      rw [rows, wt_cons]
      simp only
      omega
    | succ i =>
      have := ih i x m (by simpa [rows] using h1) (by simpa [meas] using h2)
      rw [rows, wt_cons, wrs, List.length_append]
      omega
  | li k nx ihk ih =>
    intro i x m h1 h2
    cases i with
    | zero =>
      simp only [meas, List.getElem?_cons_zero, Option.some.injEq] at h2
      subst h2
      simp only
      rw [wrs, List.length_append, List.length_append]
      omega
    | succ i =>
      simp only [rows, meas, List.getElem?_cons_succ] at h1 h2
      rw [rows, wt_cons, wt_app, wrs, List.length_append, List.length_append]
      by_cases hi : i < (rows k).length
      · rw [List.getElem?_append_left hi] at h1
        rw [List.getElem?_append_left (by rw [meas_length]; exact hi)] at h2
        have := ihk i x m h1 h2
        omega
      · rw [List.getElem?_append_right (by omega)] at h1
        rw [List.getElem?_append_right (by rw [meas_length]; omega), meas_length] at h2
        have := ih _ x m h1 h2
        omega
theorem make_b8 (n : Nat) (hn : n ≤ 1000000) (w : World) : ∃ c : Array Value, c.size = n ∧ (Instr.makeSlice 25 (.int .i64 0) (.int .u64 (n : Int))).run Try.prog w = .ok (.slice (some ⟨w.heap.size, 0, none⟩) 0 n) (w.alloc (.cells c 5)) := by
  obtain ⟨i, hi, hz, hs, hb⟩ := Try.parts8
  refine ⟨madeCells #[.int .u8 0] (n * 1), by rw [size_madeCells]; omega, ?_⟩
  have := run_make (P := Try.prog) w 25 5 i _ Try.underlying25 hi hz .i64 .u64 0 n (by omega) (by omega) (by rw [hb]; omega) (by omega)
  rw [hs] at this
  simp only [Int.toNat_natCast] at this
  exact this
end Go.Proofs.Ytfpeliolngfkpaa
