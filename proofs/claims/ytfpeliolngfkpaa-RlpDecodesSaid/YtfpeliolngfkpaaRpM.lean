/- Items in rows and in bytes, in plain words: no program is named here. Forests of items; their rows of nodes; their writing; how deep they are. -/
import Derived.Test.YtfpeliolngfkpaaDig
namespace Go.Proofs.Ytfpeliolngfkpaa.SmWord
set_option maxRecDepth 100000

/-- A node: whether it is a list, its bytes, and its size. -/
structure Nd where
  ls : Bool
  by' : List Nat
  sz : Int
/-- Items, one behind the other: none; bytes, and what stands behind them; a list of items, and what stands behind it. -/
inductive Fo where
  | no
  | st (b : List Nat) (nx : Fo)
  | li (k : Fo) (nx : Fo)
/-- Their row. -/
def rows : Fo → List Nd
  | .no => []
  | .st b nx => ⟨false, b, 0⟩ :: rows nx
  | .li k nx => ⟨true, [], ((rows k).length : Int)⟩ :: (rows k ++ rows nx)
/-- One item. -/
def One : Fo → Prop
  | .no => False
  | .st _ nx => nx = .no
  | .li _ nx => nx = .no
theorem rows_inj : ∀ F G : Fo, rows F = rows G → F = G
  | .no, .no, _ => rfl
  | .no, .st _ _, h => by simp [rows] at h
  | .no, .li _ _, h => by simp [rows] at h
  | .st _ _, .no, h => by simp [rows] at h
  | .li _ _, .no, h => by simp [rows] at h
  | .st b nx, .st c mx, h => by
    simp [rows] at h
    rw [h.1, rows_inj nx mx h.2]
  | .st _ _, .li _ _, h => by simp [rows] at h
  | .li _ _, .st _ _, h => by simp [rows] at h
  | .li k nx, .li l mx, h => by
    simp only [rows, List.cons.injEq, Nd.mk.injEq, true_and] at h
    obtain ⟨h1, h2⟩ := h
    have h3 : (rows k).length = (rows l).length := by omega
    obtain ⟨h4, h5⟩ := List.append_inj h2 h3
    rw [rows_inj k l h4, rows_inj nx mx h5]
/-- Which rows are items' rows: node by node. -/
def IsF (X : List Nd) : Prop := ∃ F, rows F = X
theorem isF_nil : IsF [] := ⟨.no, rfl⟩
theorem isF_st (x : Nd) (X : List Nd) (h : x.ls = false) : IsF (x :: X) ↔ x.sz = 0 ∧ IsF X := by
  constructor
  · rintro ⟨F, hF⟩
    cases F with
    | no => simp [rows] at hF
    | st b nx =>
      simp only [rows, List.cons.injEq] at hF
      obtain ⟨rfl, h2⟩ := hF
      exact ⟨rfl, nx, h2⟩
    | li k nx =>
      simp only [rows, List.cons.injEq] at hF
      obtain ⟨rfl, _⟩ := hF
      cases h
  · rintro ⟨h1, F, rfl⟩
    refine ⟨.st x.by' F, ?_⟩
    cases x
    simp only at h h1
    subst h h1
    rfl
theorem isF_li (x : Nd) (X : List Nd) (h : x.ls = true) : IsF (x :: X) ↔ x.by' = [] ∧ ∃ n : Nat, x.sz = (n : Int) ∧ n ≤ X.length ∧ IsF (X.take n) ∧ IsF (X.drop n) := by
  constructor
  · rintro ⟨F, hF⟩
    cases F with
    | no => simp [rows] at hF
    | st b nx =>
      simp only [rows, List.cons.injEq] at hF
      obtain ⟨rfl, _⟩ := hF
      cases h
    | li k nx =>
      simp only [rows, List.cons.injEq] at hF
      obtain ⟨rfl, rfl⟩ := hF
      refine ⟨rfl, (rows k).length, rfl, by simp, ⟨k, ?_⟩, ⟨nx, ?_⟩⟩
      · simp
      · simp
  · rintro ⟨h1, n, h2, h3, ⟨k, hk⟩, ⟨nx, hn⟩⟩
    refine ⟨.li k nx, ?_⟩
    have e : (rows k).length = n := by rw [hk, List.length_take, Nat.min_eq_left h3]
    cases x
    simp only at h h1 h2
    subst h h1 h2
    simp only [rows]
    rw [e, hk, hn, List.take_append_drop]
theorem isF_app {X Y : List Nd} (h : IsF X) : IsF (X ++ Y) ↔ IsF Y := by
  obtain ⟨F, rfl⟩ := h
  induction F with
  | no => simp [rows]
  | st b nx ih =>
    simp only [rows, List.cons_append]
    rw [isF_st _ _ rfl, ih]
    simp
  | li k nx ihk ih =>
    simp only [rows, List.cons_append, List.append_assoc]
    rw [isF_li _ _ rfl]
    constructor
    · rintro ⟨_, n, h1, _, _, h4⟩
      have e : n = (rows k).length := by simp only at h1; omega
      subst e
      rw [List.drop_left'] at h4
      · exact ih.1 h4
      · rfl
    · intro hY
      refine ⟨rfl, (rows k).length, rfl, by simp, ⟨k, by simp⟩, ?_⟩
      rw [List.drop_left']
      · exact ih.2 hY
      · rfl
/-- How deep lists stand in lists. -/
def dps : Fo → Nat
  | .no => 0
  | .st _ nx => dps nx
  | .li k nx => max (dps k + 1) (dps nx)
/-- In how many lists the node at a place stands, itself counted. -/
def cn : List Nd → Nat → Nat
  | [], _ => 0
  | x :: X, i => (if x.ls = true ∧ (i : Int) ≤ x.sz then 1 else 0) + (match i with | 0 => 0 | i + 1 => cn X i)
theorem cn_zero (x : Nd) (X : List Nd) : cn (x :: X) 0 = if x.ls = true ∧ (0 : Int) ≤ x.sz then 1 else 0 := by simp [cn]
theorem cn_succ (x : Nd) (X : List Nd) (i : Nat) : cn (x :: X) (i + 1) = (if x.ls = true ∧ ((i + 1 : Nat) : Int) ≤ x.sz then 1 else 0) + cn X i := by rw [cn]
theorem cn_left : ∀ (K Y : List Nd) (i : Nat), i < K.length → cn (K ++ Y) i = cn K i
  | [], _, _, h => by simp at h
  | x :: K, Y, 0, _ => by rw [List.cons_append, cn_zero, cn_zero]
  | x :: K, Y, i + 1, h => by rw [List.cons_append, cn_succ, cn_succ, cn_left K Y i (by simpa using h)]
theorem cn_right (Y : List Nd) : ∀ (F : Fo) (i : Nat), cn (rows F ++ Y) ((rows F).length + i) = cn Y i
  | .no, i => by simp [rows]
  | .st b nx, i => by
    have := cn_right Y nx i
    simp only [rows, List.cons_append, List.length_cons]
    rw [show (rows nx).length + 1 + i = ((rows nx).length + i) + 1 by omega, cn_succ, this]
    simp
  | .li k nx, i => by
    have h1 := cn_right (rows nx ++ Y) k ((rows nx).length + i)
    have h2 := cn_right Y nx i
    simp only [rows, List.cons_append, List.append_assoc, List.length_cons, List.length_append]
    rw [show (rows k).length + (rows nx).length + 1 + i = ((rows k).length + ((rows nx).length + i)) + 1 by omega, cn_succ, h1, h2]
    simp
    omega
theorem cn_le : ∀ (F : Fo) (i : Nat), i < (rows F).length → cn (rows F) i ≤ dps F
  | .no, _, h => by simp [rows] at h
  | .st b nx, 0, _ => by simp [rows, cn_zero]
  | .st b nx, i + 1, h => by
    have := cn_le nx i (by simpa [rows] using h)
    simp only [rows]
    rw [cn_succ]
    simpa [dps] using this
  | .li k nx, 0, _ => by
    simp only [rows]
    rw [cn_zero]
    simp [dps]
    omega
  | .li k nx, i + 1, h => by
    simp only [rows, dps]
    rw [cn_succ]
    simp only [rows, List.length_cons, List.length_append] at h
    by_cases hl : i < (rows k).length
    · have := cn_le k i hl
      rw [cn_left _ _ _ hl]
      split <;> omega
    · obtain ⟨j, rfl⟩ : ∃ j, i = (rows k).length + j := ⟨i - (rows k).length, by omega⟩
      have := cn_le nx j (by omega)
      rw [cn_right]
      rw [if_neg (by simp; omega)]
      omega
theorem cn_most : ∀ F : Fo, dps F = 0 ∨ ∃ i, i < (rows F).length ∧ cn (rows F) i = dps F
  | .no => .inl rfl
  | .st b nx => by
    rcases cn_most nx with h | ⟨i, hi, h⟩
    · exact .inl h
    · exact .inr ⟨i + 1, by simpa [rows] using hi, by simp only [rows]; rw [cn_succ]; simpa [dps] using h⟩
  | .li k nx => by
    refine .inr ?_
    by_cases hm : dps nx ≤ dps k + 1
    · rcases cn_most k with h | ⟨i, hi, h⟩
      · refine ⟨0, by simp [rows], ?_⟩
        simp only [rows]
        rw [cn_zero]
        simp [dps]
        omega
      · refine ⟨i + 1, by simp [rows]; omega, ?_⟩
        simp only [rows, dps]
        rw [cn_succ, cn_left _ _ _ hi, h, if_pos (by simp; omega)]
        omega
    · rcases cn_most nx with h | ⟨i, hi, h⟩
      · omega
      · refine ⟨(rows k).length + i + 1, by simp [rows]; omega, ?_⟩
        simp only [rows, dps]
        rw [cn_succ, cn_right, h, if_neg (by simp; omega)]
        omega
/-- The greatest among the first m. -/
def dmu (X : List Nd) : Nat → Nat
  | 0 => 0
  | m + 1 => max (dmu X m) (cn X m)
theorem dmu_le {X : List Nd} {D : Nat} : ∀ m, (∀ i, i < m → cn X i ≤ D) → dmu X m ≤ D
  | 0, _ => Nat.zero_le _
  | m + 1, h => Nat.max_le.2 ⟨dmu_le m fun i hi => h i (by omega), h m (by omega)⟩
theorem le_dmu (X : List Nd) : ∀ m i, i < m → cn X i ≤ dmu X m
  | m + 1, i, h => by
    unfold dmu
    by_cases e : i = m
    · subst e; exact Nat.le_max_right _ _
    · exact Nat.le_trans (le_dmu X m i (by omega)) (Nat.le_max_left _ _)
theorem dmu_rows (F : Fo) : dmu (rows F) (rows F).length = dps F := by
  refine Nat.le_antisymm (dmu_le _ fun i hi => cn_le F i hi) ?_
  rcases cn_most F with h | ⟨i, hi, h⟩
  · omega
  · rw [← h]; exact le_dmu _ _ _ hi
end Go.Proofs.Ytfpeliolngfkpaa.SmWord
