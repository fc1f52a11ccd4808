/- What measureList does: the measure of a list, of its items and their measures. -/
import Derived.Test.YtfpeliolngfkpaaRrD
namespace Go.Proofs.Ytfpeliolngfkpaa
open Go.RowKit SmWord
set_option maxRecDepth 100000

/-- Items behind items. -/
def app : Fo → Fo → Fo
  | .no, G => G
  | .st b nx, G => .st b (app nx G)
  | .li k nx, G => .li k (app nx G)
theorem app_no : ∀ F, app F .no = F
  | .no => rfl
  | .st b nx => by rw [app, app_no nx]
  | .li k nx => by rw [app, app_no nx]
theorem app_app : ∀ F G H, app (app F G) H = app F (app G H)
  | .no, _, _ => rfl
  | .st b nx, G, H => by rw [app, app, app, app_app nx G H]
  | .li k nx, G, H => by rw [app, app, app, app_app nx G H]
theorem rows_app : ∀ F G, rows (app F G) = rows F ++ rows G
  | .no, _ => rfl
  | .st b nx, G => by simp [app, rows, rows_app nx G]
  | .li k nx, G => by simp [app, rows, rows_app nx G]
theorem wrs_app : ∀ F G, wrs (app F G) = wrs F ++ wrs G
  | .no, _ => rfl
  | .st b nx, G => by simp [app, wrs, wrs_app nx G]
  | .li k nx, G => by simp [app, wrs, wrs_app nx G]
theorem dps_app : ∀ F G, dps (app F G) = max (dps F) (dps G)
  | .no, _ => by simp [app, dps]
  | .st b nx, G => by simp [app, dps, dps_app nx G]
  | .li k nx, G => by simp [app, dps, dps_app nx G, Nat.max_assoc]
/-- A node's measure: the bytes behind its head, those of its whole writing, and how deep it is. -/
structure Ms where
  inn : Nat
  who : Nat
  dep : Nat
/-- The measures of the nodes of items. -/
def meas : Fo → List Ms
  | .no => []
  | .st b nx => ⟨b.length, (ws b).length, 0⟩ :: meas nx
  | .li k nx => ⟨(wrs k).length, hz (wrs k).length + (wrs k).length, dps k + 1⟩ :: (meas k ++ meas nx)
theorem meas_app : ∀ F G, meas (app F G) = meas F ++ meas G
  | .no, _ => rfl
  | .st b nx, G => by simp [app, meas, meas_app nx G]
  | .li k nx, G => by simp [app, meas, meas_app nx G]
theorem meas_length : ∀ F, (meas F).length = (rows F).length
  | .no => rfl
  | .st b nx => by simp [meas, rows, meas_length nx]
  | .li k nx => by simp [meas, rows, meas_length k, meas_length nx]
/-- The bytes that all heads and bytes of a row have at most. -/
def wt (X : List Nd) : Nat := (X.map fun x => 9 + x.by'.length).sum
theorem wt_cons (x : Nd) (X : List Nd) : wt (x :: X) = 9 + x.by'.length + wt X := by simp [wt]
theorem wt_app (X Y : List Nd) : wt (X ++ Y) = wt X + wt Y := by simp [wt]
theorem wt_drop (X : List Nd) (i : Nat) : wt (X.drop i) ≤ wt X := by
  have := wt_app (X.take i) (X.drop i)
  rw [List.take_append_drop] at this
  omega
theorem wt_take (X : List Nd) (i : Nat) : wt (X.take i) ≤ wt X := by
  have := wt_app (X.take i) (X.drop i)
  rw [List.take_append_drop] at this
  omega
theorem wt_len (X : List Nd) : 9 * X.length ≤ wt X := by
  induction X with
  | nil => simp
  | cons x X ih => rw [wt_cons, List.length_cons]; omega
theorem wrs_le : ∀ F, wt (rows F) ≤ 1000000 → (wrs F).length ≤ wt (rows F)
  | .no, _ => by simp [wrs]
  | .st b nx, h => by
    rw [rows, wt_cons] at h
    have h1 := wrs_le nx (by omega)
    have h2 := hea_le (n := b.length) 0 (by simp only at h; omega)
    rw [rows, wt_cons, wrs, List.length_append, ws]
    simp only
    split
    · omega
    · rw [List.length_append]
      omega
  | .li k nx, h => by
    rw [rows, wt_cons, wt_app] at h
    have h1 := wrs_le nx (by omega)
    have h3 := wrs_le k (by omega)
    have h2 := hea_le (n := (wrs k).length) 64 (by omega)
    rw [rows, wt_cons, wt_app, wrs, List.length_append, List.length_append]
    simp only [List.length_nil]
    omega
theorem dps_le : ∀ F, dps F ≤ (rows F).length
  | .no => by simp [dps]
  | .st b nx => by have := dps_le nx; simp [dps, rows]; omega
  | .li k nx => by have := dps_le k; have := dps_le nx; simp [dps, rows]; omega
/-- What is at the front of items' row. -/
theorem rows_cons {x : Nd} {X : List Nd} {G : Fo} (h : rows G = x :: X) : ∃ (F nx : Fo) (n : Nat), G = app F nx ∧ One F ∧ x.sz = (n : Int) ∧ (rows F).length = n + 1 ∧ ∃ m M, meas G = m :: M ∧ m.who = (wrs F).length ∧ m.dep = dps F := by
  cases G with
  | no => cases h
  | st b nx =>
    simp only [rows, List.cons.injEq] at h
    obtain ⟨rfl, h2⟩ := h
    exact ⟨.st b .no, nx, 0, rfl, rfl, rfl, rfl, _, _, rfl, by simp [wrs], by simp [dps]⟩
  | li k nx =>
    simp only [rows, List.cons.injEq] at h
    obtain ⟨rfl, h2⟩ := h
    exact ⟨.li k .no, nx, (rows k).length, rfl, rfl, rfl, by simp [rows], _, _, rfl, by simp [wrs, hea_hz], by simp [dps]⟩
end Go.Proofs.Ytfpeliolngfkpaa
