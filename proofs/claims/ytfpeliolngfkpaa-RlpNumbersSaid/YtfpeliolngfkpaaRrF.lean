/- What measureList does: the measure of a list, of its items and their measures. -/
import Derived.Test.YtfpeliolngfkpaaRrE
namespace Go.Proofs.Ytfpeliolngfkpaa
open Go.RowKit SmWord
set_option maxRecDepth 100000

/-- A measure in memory. -/
structure MsAt (w : World) (b off : Nat) (x : Ms) : Prop where
  inn : w.cell? ⟨b, off, none⟩ = some (.int .u64 ((x.inn : Nat) : Int))
  who : w.cell? ⟨b, off + 1, none⟩ = some (.int .u64 ((x.who : Nat) : Int))
  dep : w.cell? ⟨b, off + 2, none⟩ = some (.int .i64 ((x.dep : Nat) : Int))
def MsS (w : World) (M : Option Addr) (l : List Ms) : Prop := 0 < l.length → ∃ b off, M = some ⟨b, off, none⟩ ∧ b < w.heap.size ∧ ∀ i x, l[i]? = some x → MsAt w b (off + 3 * i) x
theorem MsAt.below {w w' : World} {b off : Nat} {x : Ms} (h : MsAt w b off x) (hb : Below w.heap.size w w') (hl : b < w.heap.size) : MsAt w' b off x :=
  ⟨(hb.cell (p := ⟨b, off, none⟩) hl).trans h.inn, (hb.cell (p := ⟨b, off + 1, none⟩) hl).trans h.who, (hb.cell (p := ⟨b, off + 2, none⟩) hl).trans h.dep⟩
theorem MsS.below {w w' : World} {M : Option Addr} {l : List Ms} (h : MsS w M l) (hb : Below w.heap.size w w') : MsS w' M l := fun hl => by
  obtain ⟨b, off, e, hlt, hc⟩ := h hl
  exact ⟨b, off, e, Nat.lt_of_lt_of_le hlt hb.size, fun i x hx => (hc i x hx).below hb hlt⟩
/-- How far the walk comes, and the items that then lie ahead of it. -/
def hopR (n : Nat) : Nat → Fo → Fo → Nat × Fo
  | i, K, .no => (i, K)
  | i, K, .st b nx => if i < n then hopR n (i + 1) (app K (.st b .no)) nx else (i, K)
  | i, K, .li k nx => if i < n then hopR n (i + 1 + (rows k).length) (app K (.li k .no)) nx else (i, K)
theorem hopR_end {n i : Nat} (h : ¬ i < n) (K : Fo) : ∀ G, hopR n i K G = (i, K)
  | .no => rfl
  | .st b nx => by rw [hopR, if_neg h]
  | .li k nx => by rw [hopR, if_neg h]
theorem hopR_step {n i s : Nat} (h : i < n) {K F nx : Fo} (hF : One F) (hs : (rows F).length = s + 1) : hopR n i K (app F nx) = hopR n (i + 1 + s) (app K F) nx := by
  cases F with
  | no => cases hF
  | st b m =>
    cases (hF : m = .no)
    have : s = 0 := by simp [rows] at hs; omega
    subst this
    rw [app, app, hopR, if_pos h]
  | li k m =>
    cases (hF : m = .no)
    have : s = (rows k).length := by simp [rows] at hs; omega
    subst this
    rw [app, app, hopR, if_pos h]
/-- The walk's place: items K lie ahead of it, items G behind. -/
structure Hop (Y : List Nd) (G0 : Fo) (n i : Nat) (K G : Fo) : Prop where
  cut : G0 = app K G
  len : (rows K).length = i
  all : i ≤ Y.length
  one : i ≤ n ∨ ¬ IsF (Y.take n)
  run : hopR n i K G = hopR n 0 .no G0
theorem Hop.start {Y : List Nd} {G0 : Fo} {n : Nat} : Hop Y G0 n 0 .no G0 := ⟨rfl, rfl, Nat.zero_le _, .inl (Nat.zero_le _), rfl⟩
theorem Hop.left {Y : List Nd} {G0 K G : Fo} {n i : Nat} (hY : rows G0 = Y) (h : Hop Y G0 n i K G) : Y.take i = rows K ∧ Y.drop i = rows G ∧ (meas G0).drop i = meas G := by
  have e : Y = rows K ++ rows G := by rw [← hY, h.cut, rows_app]
  have e2 : meas G0 = meas K ++ meas G := by rw [h.cut, meas_app]
  have hl := h.len
  refine ⟨by rw [e, ← hl, List.take_left'] ; rfl, by rw [e, ← hl, List.drop_left']; rfl, by rw [e2, ← hl, ← meas_length, List.drop_left']; rfl⟩
/-- One round: an item more lies ahead. -/
theorem Hop.step {Y : List Nd} {G0 K G : Fo} {n i : Nat} (hY : rows G0 = Y) (h : Hop Y G0 n i K G) (hin : i < n) (hn : n ≤ Y.length) :
    ∃ (x : Nd) (m : Ms) (F nx : Fo) (s : Nat), Y[i]? = some x ∧ (meas G0)[i]? = some m ∧ x.sz = (s : Int) ∧ m.who = (wrs F).length ∧ m.dep = dps F ∧ Hop Y G0 n (i + 1 + s) (app K F) nx := by
  obtain ⟨h1, h2, h3⟩ := h.left hY
  have hlt : i < Y.length := Nat.lt_of_lt_of_le hin hn
  have hx : Y.drop i = Y[i] :: Y.drop (i + 1) := (List.drop_eq_getElem_cons hlt)
  rw [h2] at hx
  obtain ⟨F, nx, s, e, hone, hs, hF, m, M, hm, hw, hd⟩ := rows_cons hx
  refine ⟨Y[i], m, F, nx, s, List.getElem?_eq_getElem hlt, ?_, hs, hw, hd, ?_, ?_, ?_, ?_, ?_⟩
  · have : ((meas G0).drop i)[0]? = some m := by rw [h3, hm]; rfl
    rwa [List.getElem?_drop, Nat.add_zero] at this
  · rw [app_app, ← e]; exact h.cut
  · rw [rows_app, List.length_append, h.len, hF]; omega
  · have e1 : Y.length = i + (rows G).length := by rw [← h2, List.length_drop]; omega
    rw [e, rows_app, List.length_append, hF] at e1
    omega
  · by_cases hle : i + 1 + s ≤ n
    · exact .inl hle
    · refine .inr fun hI => hle ?_
      have e1 : Y.take n = rows K ++ (Y.drop i).take (n - i) := by
        rw [← h1, ← List.take_add, Nat.add_sub_cancel' (Nat.le_of_lt hin)]
      rw [e1, isF_app ⟨K, rfl⟩, h2, hx] at hI
      obtain ⟨j, hj⟩ : ∃ j, n - i = j + 1 := ⟨n - i - 1, by omega⟩
      rw [hj, List.take_succ_cons] at hI
      by_cases hl : Y[i].ls = true
      · obtain ⟨_, n', hz, hle', _⟩ := (isF_li _ _ hl).1 hI
        rw [List.length_take] at hle'
        rw [hs] at hz
        omega
      · have := ((isF_st _ _ (by simpa using hl)).1 hI).1
        rw [hs] at this
        omega
  · rw [← hopR_step hin hone hF, ← e]
    exact h.run
theorem Hop.end {Y : List Nd} {G0 K G : Fo} {n i : Nat} (hY : rows G0 = Y) (h : Hop Y G0 n i K G) (hi : ¬ i < n) (_hn : n ≤ Y.length) : (i = n ↔ IsF (Y.take n)) ∧ (i = n → rows K = Y.take n) := by
  obtain ⟨h1, _, _⟩ := h.left hY
  refine ⟨⟨fun e => ?_, fun hI => ?_⟩, fun e => ?_⟩
  · subst e; exact ⟨K, h1.symm⟩
  · rcases h.one with h2 | h2
    · omega
    · exact absurd hI h2
  · subst e; exact h1.symm
theorem Hop.ends {Y : List Nd} {G0 K G : Fo} {n i : Nat} (h : Hop Y G0 n i K G) (hi : ¬ i < n) : hopR n 0 .no G0 = (i, K) := by rw [← h.run, hopR_end hi]
theorem hop_pure {Y : List Nd} {G0 : Fo} {n : Nat} (hY : rows G0 = Y) (hn : n ≤ Y.length) : ((hopR n 0 .no G0).1 = n ↔ IsF (Y.take n)) ∧ ((hopR n 0 .no G0).1 = n → rows (hopR n 0 .no G0).2 = Y.take n) := by
  have key : ∀ d i K G, Y.length - i ≤ d → Hop Y G0 n i K G → ((hopR n 0 .no G0).1 = n ↔ IsF (Y.take n)) ∧ ((hopR n 0 .no G0).1 = n → rows (hopR n 0 .no G0).2 = Y.take n) := by
    intro d
    induction d with
    | zero =>
      intro i K G hd h
      have hi : ¬ i < n := by omega
      rw [h.ends hi]
      exact h.end hY hi hn
    | succ d ih =>
      intro i K G hd h
      by_cases hi : i < n
      · obtain ⟨_, _, F, nx, s, _, _, _, _, _, h'⟩ := h.step hY hi hn
        exact ih _ _ _ (by omega) h'
      · rw [h.ends hi]
        exact h.end hY hi hn
  exact key _ _ _ _ (Nat.le_refl _) Hop.start
theorem Hop.small {Y : List Nd} {G0 K G : Fo} {n i : Nat} (hY : rows G0 = Y) (h : Hop Y G0 n i K G) (hwt : wt Y ≤ 1000000) : (wrs K).length ≤ 1000000 ∧ dps K ≤ 1000000 ∧ Y.length ≤ 1000000 := by
  obtain ⟨h1, _, _⟩ := h.left hY
  have a := wt_take Y i
  have b := wt_len Y
  have c := wrs_le K (by rw [← h1]; omega)
  have d := dps_le K
  rw [← h1] at c d
  rw [List.length_take] at d
  omega
end Go.Proofs.Ytfpeliolngfkpaa
