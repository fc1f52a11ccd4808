/- The measures of nodes: fits, measureBytes. -/
import Derived.Test.YtmcbaolecmkpdaaDoorG4
import Derived.Laws.ResultCell
namespace Go.Proofs.YtmcbaolecmkpdaaDoor
open Go.RowKit SmWord
set_option maxRecDepth 100000

def fit (ls : Bool) (n : Nat) (z : Int) (m : Nat) : Bool := if ls then decide (n = 0 ∧ 0 ≤ z ∧ z ≤ (m : Int)) else decide (z = 0)
theorem fits_walk (ls : Bool) (A : Option Addr) (n c : Nat) (z : Int) (m : Nat) (w : World) (hn : n ≤ maxLen) (hz : -9223372036854775808 ≤ z ∧ z ≤ 9223372036854775807) (hm : m ≤ maxLen) :
    Calls Tryd.prog 49 #[.agg #[.bool ls, .slice A n c, .int .i64 z], .int .i64 (m : Int)] w fun e w' => e = .returned (.bool (fit ls n z m)) ∧ Below w.heap.size w w' := by
  have hn' : n ≤ 9223372036854775807 := hn
  have hm' : m ≤ 9223372036854775807 := hm
  obtain ⟨hz1, hz2⟩ := hz
  cases ls
  · go_enter Tryd.func49, Tryd.ntmps49
    go_wp2_with fail
    go_ret
    refine ⟨?_, (Below.refl _ _).alloc (Nat.le_refl _) _⟩
    show Ending.returned (.bool (z == 0)) = _
    rw [show (z == 0) = decide (z = 0) from (by by_cases h : z = 0 <;> simp [h])]
    rfl
  · by_cases h1 : n = 0
    · subst h1
      go_enter Tryd.func49, Tryd.ntmps49
      go_wp2_with fail
      all_goals
        go_ret
        refine ⟨?_, (Below.refl _ _).alloc (Nat.le_refl _) _⟩
        refine congrArg (fun b => Ending.returned (.bool b)) ?_
        simp [fit]
        try omega
    · have d1 : decide ((n : Int) = 0) = false := decide_eq_false (by omega)
      go_enter Tryd.func49, Tryd.ntmps49
      go_wp2_with fail
      go_ret
      refine ⟨?_, (Below.refl _ _).alloc (Nat.le_refl _) _⟩
      refine congrArg (fun b => Ending.returned (.bool b)) ?_
      simp [fit, h1]
theorem Tryd.infoM : (Tryd.prog.info? 68).map (·.size) = some 3 := by kernel_rfl
/-- How many bytes the writing of bytes has. -/
def wz (n : Nat) (x : Nat) : Nat := if n = 1 ∧ x < 128 then n else hz n + n
theorem mbytes_walk (A : Option Addr) (n c : Nat) (f : Nat → Nat) (w : World) (hn : n ≤ 1000000) (hs : Sl w A n f) :
    Calls Tryd.prog 50 #[.slice A n c] w fun e w' => e = .returned (.agg #[.int .u64 (n : Int), .int .u64 ((wz n (f 0) : Nat) : Int), .int .i64 0]) ∧ Below w.heap.size w w' := by
  have K1 := Lib.hid fun w hs => bare_walk A n c f w (by unfold maxLen; omega) hs
  have K2 := Lib.hid fun w => hsize_walk n w (by unfold B; omega)
  have hz9 := hz_le (n := n) (by unfold B; omega)
  have HS := Lib.hid (hs.below ((Below.refl _ _).alloc (Nat.le_refl _) (.cells #[.int .u64 0, .int .u64 0, .int .i64 0] 68)))
  have bW : Below w.heap.size w (w.alloc (.cells #[.int .u64 0, .int .u64 0, .int .i64 0] 68)) := (Below.refl _ _).alloc (Nat.le_refl _) _
  have hf : (w.alloc (.cells #[.int .u64 0, .int .u64 0, .int .i64 0] 68)).heap[w.heap.size]? = some (.cells #[.int .u64 0, .int .u64 0, .int .i64 0] 68) := heap_alloc_new _ _
  have HW := Lib.hid (show wz n (f 0) = if decide (n = 1 ∧ f 0 < 128) then n else hz n + n by unfold wz; by_cases h : n = 1 ∧ f 0 < 128 <;> simp [h])
  generalize wz n (f 0) = x at *
  generalize decide (n = 1 ∧ f 0 < 128) = p at *
  clear hs
  generalize hz n = k at *
  have HF := Lib.hid hf
  have HB := Lib.hid bW
  clear hf bW
  cases p
  · have hx := HW.out
    simp only [Bool.false_eq_true, if_false] at hx
    have e1 : (k : Int) + (n : Int) = (x : Int) := by omega
    clear HW hx
    go_enter Tryd.func50, Tryd.ntmps50
    go_wp2_with fail
    refine (K1.out _ HS.out).mono ?_
    rintro e w1 ⟨rfl, e1⟩
    go_wp2_with fail
    refine (K2.out _).mono ?_
    rintro e w2 ⟨rfl, b2⟩
    have hf2 := stay b2 HF.out
    have HB2 := Lib.hid (HB.out.trans (b2.mono HB.out.size))
    have c0 := blk_cell (j := 0) hf2 rfl
    have c1 := blk_cell (j := 1) hf2 rfl
    have c2 := blk_cell (j := 2) hf2 rfl
    have z0 := blk_frozen (j := 0) hf2
    have z1 := blk_frozen (j := 1) hf2
    have z2 := blk_frozen (j := 2) hf2
    have HF2 := Lib.hid hf2
    clear hf2 b2
    go_wp2_with fail
    exact bodyPost_ret (v := .agg #[.int .u64 (n : Int), .int .u64 (x : Int), .int .i64 0]) (results_cell_row rfl _ _ _ 68 #[.int .u64 (n : Int), .int .u64 (x : Int), .int .i64 0] (0, 0) _ rfl (blk_set (blk_set (blk_set HF2.out _) _) _) Tryd.underlying68 rfl Tryd.infoM) rfl
      ⟨rfl, ((HB2.out.setCell (Nat.le_refl _) _).setCell (Nat.le_refl _) _).setCell (Nat.le_refl _) _⟩
  · have hx := HW.out
    simp only [if_true] at hx
    subst hx
    have hf2 := HF.out
    have HB2 := HB
    go_enter Tryd.func50, Tryd.ntmps50
    go_wp2_with fail
    refine (K1.out _ HS.out).mono ?_
    rintro e w1 ⟨rfl, rfl⟩
    generalize (w.alloc (.cells #[.int .u64 0, .int .u64 0, .int .i64 0] 68)) = w2 at *
    have c0 := blk_cell (j := 0) hf2 rfl
    have c1 := blk_cell (j := 1) hf2 rfl
    have c2 := blk_cell (j := 2) hf2 rfl
    have z0 := blk_frozen (j := 0) hf2
    have z1 := blk_frozen (j := 1) hf2
    have z2 := blk_frozen (j := 2) hf2
    clear K1
    have HF2 := Lib.hid hf2
    clear hf2
    go_wp2_with fail
    exact bodyPost_ret (v := .agg #[.int .u64 (x : Int), .int .u64 (x : Int), .int .i64 0]) (results_cell_row rfl _ _ _ 68 #[.int .u64 (x : Int), .int .u64 (x : Int), .int .i64 0] (0, 0) _ rfl (blk_set (blk_set (blk_set HF2.out _) _) _) Tryd.underlying68 rfl Tryd.infoM) rfl
      ⟨rfl, ((HB2.out.setCell (Nat.le_refl _) _).setCell (Nat.le_refl _) _).setCell (Nat.le_refl _) _⟩
end Go.Proofs.YtmcbaolecmkpdaaDoor
/- What measureList does: the measure of a list, of its items and their measures. -/
namespace Go.Proofs.YtmcbaolecmkpdaaDoor
open Go.RowKit SmWord
set_option maxRecDepth 100000

/-- Items behind items. -/
def app : Fo → Fo → Fo
  | .no, G => G
  | .st b nx, G => .st b (app nx G)
  | .li k nx, G => .li k (app nx G)
theorem app_no : ∀ F, app F .no = F
  | .no => rfl
  | .st b nx => by rw [app, app_no nx]
  | .li k nx => by rw [app, app_no nx]
theorem app_app : ∀ F G H, app (app F G) H = app F (app G H)
  | .no, _, _ => rfl
  | .st b nx, G, H => by rw [app, app, app, app_app nx G H]
  | .li k nx, G, H => by rw [app, app, app, app_app nx G H]
theorem rows_app : ∀ F G, rows (app F G) = rows F ++ rows G
  | .no, _ => rfl
  | .st b nx, G => by simp [app, rows, rows_app nx G]
  | .li k nx, G => by simp [app, rows, rows_app nx G]
theorem wrs_app : ∀ F G, wrs (app F G) = wrs F ++ wrs G
  | .no, _ => rfl
  | .st b nx, G => by simp [app, wrs, wrs_app nx G]
  | .li k nx, G => by simp [app, wrs, wrs_app nx G]
theorem dps_app : ∀ F G, dps (app F G) = max (dps F) (dps G)
  | .no, _ => by simp [app, dps]
  | .st b nx, G => by simp [app, dps, dps_app nx G]
  | .li k nx, G => by simp [app, dps, dps_app nx G, Nat.max_assoc]
/-- A node's measure: the bytes behind its head, those of its whole writing, and how deep it is. -/
structure Ms where
  inn : Nat
  who : Nat
  dep : Nat
/-- The measures of the nodes of items. -/
def meas : Fo → List Ms
  | .no => []
  | .st b nx => ⟨b.length, (ws b).length, 0⟩ :: meas nx
  | .li k nx => ⟨(wrs k).length, hz (wrs k).length + (wrs k).length, dps k + 1⟩ :: (meas k ++ meas nx)
theorem meas_app : ∀ F G, meas (app F G) = meas F ++ meas G
  | .no, _ => rfl
  | .st b nx, G => by simp [app, meas, meas_app nx G]
  | .li k nx, G => by simp [app, meas, meas_app nx G]
theorem meas_length : ∀ F, (meas F).length = (rows F).length
  | .no => rfl
  | .st b nx => by simp [meas, rows, meas_length nx]
  | .li k nx => by simp [meas, rows, meas_length k, meas_length nx]
/-- The bytes that all heads and bytes of a row have at most. -/
def wt (X : List Nd) : Nat := (X.map fun x => 9 + x.by'.length).sum
theorem wt_cons (x : Nd) (X : List Nd) : wt (x :: X) = 9 + x.by'.length + wt X := by simp [wt]
theorem wt_app (X Y : List Nd) : wt (X ++ Y) = wt X + wt Y := by simp [wt]
theorem wt_drop (X : List Nd) (i : Nat) : wt (X.drop i) ≤ wt X := by
  have := wt_app (X.take i) (X.drop i)
  rw [List.take_append_drop] at this
  omega
theorem wt_take (X : List Nd) (i : Nat) : wt (X.take i) ≤ wt X := by
  have := wt_app (X.take i) (X.drop i)
  rw [List.take_append_drop] at this
  omega
theorem wt_len (X : List Nd) : 9 * X.length ≤ wt X := by
  induction X with
  | nil => simp
  | cons x X ih => rw [wt_cons, List.length_cons]; omega
theorem wrs_le : ∀ F, wt (rows F) ≤ 1000000 → (wrs F).length ≤ wt (rows F)
  | .no, _ => by simp [wrs]
  | .st b nx, h => by
    rw [rows, wt_cons] at h
    have h1 := wrs_le nx (by omega)
    have h2 := hea_le (n := b.length) 0 (by simp only at h; omega)
    rw [rows, wt_cons, wrs, List.length_append, ws]
    simp only
    split
    · omega
    · rw [List.length_append]
      omega
  | .li k nx, h => by
    rw [rows, wt_cons, wt_app] at h
    have h1 := wrs_le nx (by omega)
    have h3 := wrs_le k (by omega)
    have h2 := hea_le (n := (wrs k).length) 64 (by omega)
    rw [rows, wt_cons, wt_app, wrs, List.length_append, List.length_append]
    simp only [List.length_nil]
    omega
theorem dps_le : ∀ F, dps F ≤ (rows F).length
  | .no => by simp [dps]
  | .st b nx => by have := dps_le nx; simp [dps, rows]; omega
  | .li k nx => by have := dps_le k; have := dps_le nx; simp [dps, rows]; omega
/-- What is at the front of items' row. -/
theorem rows_cons {x : Nd} {X : List Nd} {G : Fo} (h : rows G = x :: X) : ∃ (F nx : Fo) (n : Nat), G = app F nx ∧ One F ∧ x.sz = (n : Int) ∧ (rows F).length = n + 1 ∧ ∃ m M, meas G = m :: M ∧ m.who = (wrs F).length ∧ m.dep = dps F := by
  cases G with
  | no => cases h
  | st b nx =>
    simp only [rows, List.cons.injEq] at h
    obtain ⟨rfl, h2⟩ := h
    exact ⟨.st b .no, nx, 0, rfl, rfl, rfl, rfl, _, _, rfl, by simp [wrs], by simp [dps]⟩
  | li k nx =>
    simp only [rows, List.cons.injEq] at h
    obtain ⟨rfl, h2⟩ := h
    exact ⟨.li k .no, nx, (rows k).length, rfl, rfl, rfl, by simp [rows], _, _, rfl, by simp [wrs, hea_hz], by simp [dps]⟩
end Go.Proofs.YtmcbaolecmkpdaaDoor
/- What measureList does: the measure of a list, of its items and their measures. -/
namespace Go.Proofs.YtmcbaolecmkpdaaDoor
open Go.RowKit SmWord
set_option maxRecDepth 100000

/-- A measure in memory. -/
structure MsAt (w : World) (b off : Nat) (x : Ms) : Prop where
  inn : w.cell? ⟨b, off, none⟩ = some (.int .u64 ((x.inn : Nat) : Int))
  who : w.cell? ⟨b, off + 1, none⟩ = some (.int .u64 ((x.who : Nat) : Int))
  dep : w.cell? ⟨b, off + 2, none⟩ = some (.int .i64 ((x.dep : Nat) : Int))
def MsS (w : World) (M : Option Addr) (l : List Ms) : Prop := 0 < l.length → ∃ b off, M = some ⟨b, off, none⟩ ∧ b < w.heap.size ∧ ∀ i x, l[i]? = some x → MsAt w b (off + 3 * i) x
theorem MsAt.below {w w' : World} {b off : Nat} {x : Ms} (h : MsAt w b off x) (hb : Below w.heap.size w w') (hl : b < w.heap.size) : MsAt w' b off x :=
  ⟨(hb.cell (p := ⟨b, off, none⟩) hl).trans h.inn, (hb.cell (p := ⟨b, off + 1, none⟩) hl).trans h.who, (hb.cell (p := ⟨b, off + 2, none⟩) hl).trans h.dep⟩
theorem MsS.below {w w' : World} {M : Option Addr} {l : List Ms} (h : MsS w M l) (hb : Below w.heap.size w w') : MsS w' M l := fun hl => by
  obtain ⟨b, off, e, hlt, hc⟩ := h hl
  exact ⟨b, off, e, Nat.lt_of_lt_of_le hlt hb.size, fun i x hx => (hc i x hx).below hb hlt⟩
/-- How far the walk comes, and the items that then lie ahead of it. -/
def hopR (n : Nat) : Nat → Fo → Fo → Nat × Fo
  | i, K, .no => (i, K)
  | i, K, .st b nx => if i < n then hopR n (i + 1) (app K (.st b .no)) nx else (i, K)
  | i, K, .li k nx => if i < n then hopR n (i + 1 + (rows k).length) (app K (.li k .no)) nx else (i, K)
theorem hopR_end {n i : Nat} (h : ¬ i < n) (K : Fo) : ∀ G, hopR n i K G = (i, K)
  | .no => rfl
  | .st b nx => by rw [hopR, if_neg h]
  | .li k nx => by rw [hopR, if_neg h]
theorem hopR_step {n i s : Nat} (h : i < n) {K F nx : Fo} (hF : One F) (hs : (rows F).length = s + 1) : hopR n i K (app F nx) = hopR n (i + 1 + s) (app K F) nx := by
  cases F with
  | no => cases hF
  | st b m =>
    cases (hF : m = .no)
    have : s = 0 := by simp [rows] at hs; omega
    subst this
    rw [app, app, hopR, if_pos h]
  | li k m =>
    cases (hF : m = .no)
    have : s = (rows k).length := by simp [rows] at hs; omega
    subst this
    rw [app, app, hopR, if_pos h]
/-- The walk's place: items K lie ahead of it, items G behind. -/
structure Hop (Y : List Nd) (G0 : Fo) (n i : Nat) (K G : Fo) : Prop where
  cut : G0 = app K G
  len : (rows K).length = i
  all : i ≤ Y.length
  one : i ≤ n ∨ ¬ IsF (Y.take n)
  run : hopR n i K G = hopR n 0 .no G0
theorem Hop.start {Y : List Nd} {G0 : Fo} {n : Nat} : Hop Y G0 n 0 .no G0 := ⟨rfl, rfl, Nat.zero_le _, .inl (Nat.zero_le _), rfl⟩
theorem Hop.left {Y : List Nd} {G0 K G : Fo} {n i : Nat} (hY : rows G0 = Y) (h : Hop Y G0 n i K G) : Y.take i = rows K ∧ Y.drop i = rows G ∧ (meas G0).drop i = meas G := by
  have e : Y = rows K ++ rows G := by rw [← hY, h.cut, rows_app]
  have e2 : meas G0 = meas K ++ meas G := by rw [h.cut, meas_app]
  have hl := h.len
  refine ⟨by rw [e, ← hl, List.take_left'] ; rfl, by rw [e, ← hl, List.drop_left']; rfl, by rw [e2, ← hl, ← meas_length, List.drop_left']; rfl⟩
/-- One round: an item more lies ahead. -/
theorem Hop.step {Y : List Nd} {G0 K G : Fo} {n i : Nat} (hY : rows G0 = Y) (h : Hop Y G0 n i K G) (hin : i < n) (hn : n ≤ Y.length) :
    ∃ (x : Nd) (m : Ms) (F nx : Fo) (s : Nat), Y[i]? = some x ∧ (meas G0)[i]? = some m ∧ x.sz = (s : Int) ∧ m.who = (wrs F).length ∧ m.dep = dps F ∧ Hop Y G0 n (i + 1 + s) (app K F) nx := by
  obtain ⟨h1, h2, h3⟩ := h.left hY
  have hlt : i < Y.length := Nat.lt_of_lt_of_le hin hn
  have hx : Y.drop i = Y[i] :: Y.drop (i + 1) := (List.drop_eq_getElem_cons hlt)
  rw [h2] at hx
  obtain ⟨F, nx, s, e, hone, hs, hF, m, M, hm, hw, hd⟩ := rows_cons hx
  refine ⟨Y[i], m, F, nx, s, List.getElem?_eq_getElem hlt, ?_, hs, hw, hd, ?_, ?_, ?_, ?_, ?_⟩
  · have : ((meas G0).drop i)[0]? = some m := by rw [h3, hm]; rfl
    rwa [List.getElem?_drop, Nat.add_zero] at this
  · rw [app_app, ← e]; exact h.cut
  · rw [rows_app, List.length_append, h.len, hF]; omega
  · have e1 : Y.length = i + (rows G).length := by rw [← h2, List.length_drop]; omega
    rw [e, rows_app, List.length_append, hF] at e1
    omega
  · by_cases hle : i + 1 + s ≤ n
    · exact .inl hle
    · refine .inr fun hI => hle ?_
      have e1 : Y.take n = rows K ++ (Y.drop i).take (n - i) := by
        rw [← h1, ← List.take_add, Nat.add_sub_cancel' (Nat.le_of_lt hin)]
      rw [e1, isF_app ⟨K, rfl⟩, h2, hx] at hI
      obtain ⟨j, hj⟩ : ∃ j, n - i = j + 1 := ⟨n - i - 1, by omega⟩
      rw [hj, List.take_succ_cons] at hI
      by_cases hl : Y[i].ls = true
      · obtain ⟨_, n', hz, hle', _⟩ := (isF_li _ _ hl).1 hI
        rw [List.length_take] at hle'
        rw [hs] at hz
        omega
      · have := ((isF_st _ _ (by simpa using hl)).1 hI).1
        rw [hs] at this
        omega
  · rw [← hopR_step hin hone hF, ← e]
    exact h.run
theorem Hop.end {Y : List Nd} {G0 K G : Fo} {n i : Nat} (hY : rows G0 = Y) (h : Hop Y G0 n i K G) (hi : ¬ i < n) (_hn : n ≤ Y.length) : (i = n ↔ IsF (Y.take n)) ∧ (i = n → rows K = Y.take n) := by
  obtain ⟨h1, _, _⟩ := h.left hY
  refine ⟨⟨fun e => ?_, fun hI => ?_⟩, fun e => ?_⟩
  · subst e; exact ⟨K, h1.symm⟩
  · rcases h.one with h2 | h2
    · omega
    · exact absurd hI h2
  · subst e; exact h1.symm
theorem Hop.ends {Y : List Nd} {G0 K G : Fo} {n i : Nat} (h : Hop Y G0 n i K G) (hi : ¬ i < n) : hopR n 0 .no G0 = (i, K) := by rw [← h.run, hopR_end hi]
theorem hop_pure {Y : List Nd} {G0 : Fo} {n : Nat} (hY : rows G0 = Y) (hn : n ≤ Y.length) : ((hopR n 0 .no G0).1 = n ↔ IsF (Y.take n)) ∧ ((hopR n 0 .no G0).1 = n → rows (hopR n 0 .no G0).2 = Y.take n) := by
  have key : ∀ d i K G, Y.length - i ≤ d → Hop Y G0 n i K G → ((hopR n 0 .no G0).1 = n ↔ IsF (Y.take n)) ∧ ((hopR n 0 .no G0).1 = n → rows (hopR n 0 .no G0).2 = Y.take n) := by
    intro d
    induction d with
    | zero =>
      intro i K G hd h
      have hi : ¬ i < n := by omega
      rw [h.ends hi]
      exact h.end hY hi hn
    | succ d ih =>
      intro i K G hd h
      by_cases hi : i < n
      · obtain ⟨_, _, F, nx, s, _, _, _, _, _, h'⟩ := h.step hY hi hn
        exact ih _ _ _ (by omega) h'
      · rw [h.ends hi]
        exact h.end hY hi hn
  exact key _ _ _ _ (Nat.le_refl _) Hop.start
theorem Hop.small {Y : List Nd} {G0 K G : Fo} {n i : Nat} (hY : rows G0 = Y) (h : Hop Y G0 n i K G) (hwt : wt Y ≤ 1000000) : (wrs K).length ≤ 1000000 ∧ dps K ≤ 1000000 ∧ Y.length ≤ 1000000 := by
  obtain ⟨h1, _, _⟩ := h.left hY
  have a := wt_take Y i
  have b := wt_len Y
  have c := wrs_le K (by rw [← h1]; omega)
  have d := dps_le K
  rw [← h1] at c d
  rw [List.length_take] at d
  omega
end Go.Proofs.YtmcbaolecmkpdaaDoor
/- What measureList does: the walk. -/
namespace Go.Proofs.YtmcbaolecmkpdaaDoor
open Go.RowKit SmWord
set_option maxRecDepth 100000

theorem results_pair {P : Program} {fn : Func} {p u : Tmp} {ty : TypeId} (h : fn.results = #[.cell p ty, .tmp u]) (tmps : Array Value) (w : World) (g : Nat) (t : TypeId) (cs : Array Value) (fr : Nat × Nat) (d : TypeDesc) (v : Value)
    (hp : tmps.getD p undef = .pointer (some ⟨g, 0, none⟩)) (hg : w.heap[g]? = some (.cells cs t fr))
    (hu : P.underlying ty = some d) (hd : (match d with | .struct _ | .array _ _ => true | _ => false) = true) (hi : (P.info? ty).map (·.size) = some cs.size) (hv : tmps.getD u undef = v) :
    (results fn tmps).run P w = .ok (.tuple #[.agg cs, v]) w := by
  have hp' : tmps[p]?.getD undef = .pointer (some ⟨g, 0, none⟩) := by simpa using hp
  have hv' : tmps[u]?.getD undef = v := by simpa using hv
  rw [results_cell_tmp h]
  simp [hp', asAddr, run_loadVar_row w g t ty cs fr d hg hu hd hi, hv']
theorem ext2_cell {w : World} (w1 : Ext w.drew) (g : Ext w1.on) {b off : Nat} {v : Value} (h : w.cell? ⟨b, off, none⟩ = some v) : g.on.cell? ⟨b, off, none⟩ = some v := by
  have hlt : b < w.heap.size := by simpa using World.block_lt_of_cell? w _ h
  have h0 : b < w1.on.heap.size := Nat.lt_of_lt_of_le hlt w1.below.size
  rw [g.below.cell (p := ⟨b, off, none⟩) h0, w1.below.cell (p := ⟨b, off, none⟩) hlt]
  exact h
set_option maxHeartbeats 2000000 in
theorem mlist_walk (Y : List Nd) (G0 : Fo) (hY : rows G0 = Y) (n : Nat) (hn : n ≤ Y.length) (hwt : wt Y ≤ 1000000) (A : Option Addr) (c : Nat) (M : Option Addr) (mc : Nat) (w : World) (hN : NodesS w A Y) (hM : MsS w M (meas G0)) :
    Calls Tryd.prog 51 #[.slice A n c, .slice M Y.length mc] w fun e w' => (e = .returned (.tuple #[.agg #[.int .u64 (((wrs (hopR n 0 .no G0).2).length : Nat) : Int), .int .u64 ((hz (wrs (hopR n 0 .no G0).2).length + (wrs (hopR n 0 .no G0).2).length : Nat) : Int), .int .i64 ((dps (hopR n 0 .no G0).2 + 1 : Nat) : Int)], .bool (decide ((hopR n 0 .no G0).1 = n))]) ∧ ((hopR n 0 .no G0).1 = n ↔ IsF (Y.take n)) ∧ ((hopR n 0 .no G0).1 = n → rows (hopR n 0 .no G0).2 = Y.take n)) ∧ Below w.heap.size w w' := by
  have hlen : Y.length ≤ 1000000 := (Hop.small hY (Hop.start (n := n)) hwt).2.2
  have HY := Lib.hid hY
  have HWT := Lib.hid hwt
  have HN := Lib.hid hN
  have HM := Lib.hid hM
  have HML := Lib.hid (show (meas G0).length = Y.length by rw [meas_length, hY])
  clear hY hwt hN hM
  generalize hl : Y.length = L at *
  go_enter Tryd.func51, Tryd.ntmps51
  go_wp2_with fail
  go_loopw [7] (fun i wr => ∃ (k : Nat) (K G : Fo), Hop Y G0 n k K G ∧ i = .int .i64 (k : Int) ∧ Below w.heap.size w wr ∧ wr.heap[w.heap.size]? = some (.cells #[.int .u64 0, .int .u64 0, .int .i64 0] 68) ∧ wr.heap[w.heap.size + 1]? = some (.cells #[.int .u64 (((wrs K).length : Nat) : Int), .int .u64 0, .int .i64 ((dps K + 1 : Nat) : Int)] 68)) (fun i _ => L - (intOf i).toNat)
  case atStart =>
    exact ⟨0, .no, G0, Hop.start, rfl, ((Below.refl _ _).alloc (Nat.le_refl _) _).alloc (by simp) _, blk_alloc (heap_alloc_new _ _), heap_alloc2_new _ _ _⟩
  case round =>
    obtain ⟨k, K, G, hop, rfl, hb, h0, h1⟩ := hrel
    by_cases hlt : k < n
    · obtain ⟨x, m, F, nx, s, hx, hm, hs, hmw, hmd, hop'⟩ := hop.step HY.out hlt (by rw [hl]; exact hn)
      have hkl : k < Y.length := by rw [hl]; omega
      obtain ⟨nb, no, rfl, hnb, hnc⟩ := HN.out.cells (by omega)
      obtain ⟨mb, mo, rfl, hmb, hmc⟩ := HM.out (by rw [HML.out]; omega)
      have d1 := (hnc k x hx).sz
      have d2 := (hmc k m hm).who
      have d3 := (hmc k m hm).dep
      rw [Nat.mul_comm 3 k] at d1 d2 d3
      obtain ⟨hw6, hd6, _⟩ := hop'.small HY.out HWT.out
      rw [wrs_app, List.length_append] at hw6
      rw [dps_app] at hd6
      obtain ⟨a, ha⟩ : ∃ a, (wrs K).length = a := ⟨_, rfl⟩
      obtain ⟨dk, hdk⟩ : ∃ a, dps K + 1 = a := ⟨_, rfl⟩
      obtain ⟨mw, hmw2⟩ : ∃ a, m.who = a := ⟨_, rfl⟩
      obtain ⟨md, hmd2⟩ : ∃ a, m.dep = a := ⟨_, rfl⟩
      obtain ⟨q, hq⟩ : ∃ a, (wrs (app K F)).length = a := ⟨_, rfl⟩
      obtain ⟨dq, hdq⟩ : ∃ a, dps (app K F) + 1 = a := ⟨_, rfl⟩
      have e1 : (a : Int) + (mw : Int) = (q : Int) := by rw [← ha, ← hmw2, ← hq, hmw, wrs_app, List.length_append]; omega
      have e2 : max (dk : Int) ((md : Int) + 1) = (dq : Int) := by rw [← hdk, ← hmd2, ← hdq, hmd, dps_app]; omega
      have hq6 : q ≤ 1000000 := by rw [← hq, wrs_app, List.length_append]; exact hw6
      have hd6' : md ≤ 1000000 := by rw [← hmd2, hmd]; omega
      rw [ha, hdk] at h1
      rw [hmw2] at d2
      rw [hmd2] at d3
      rw [hs] at d1
      have b1 : wr.cell? ⟨w.heap.size + 1, 0, none⟩ = some (.int .u64 (a : Int)) := blk_cell (j := 0) h1 rfl
      have D1 := Lib.hid d1
      have D3 := Lib.hid d3
      replace d2 := (hb.cell (p := ⟨mb, mo + k * 3 + 1, none⟩) hmb).trans d2
      clear d1 d3
      have HOP := Lib.hid hop'
      have HQ := Lib.hid (And.intro hq hdq)
      have hs6 : k + 1 + s ≤ L := by rw [← hl]; exact hop'.all
      have HB := Lib.hid hb
      have H0 := Lib.hid h0
      have H1 := Lib.hid h1
      clear hop hop' ha hdk hmw2 hmd2 hq hdq hmw hmd hs hx hm hnc hmc hb h0 h1 HN HM HWT hw6 hd6
      go_wp2_with fail
      refine region_last2 (aQ := ?aQ) 9 (by kernel_rfl) (by kernel_rfl) (fun w1 => ?hq) (fun w1' hb' => ?hh)
      case hq =>
        have c1 := fun g => ext2_cell w1 g b1
        have c2 := fun g => ext2_cell w1 g d2
        simp only [List.take_succ_cons, List.take_zero]
        repeat (go_big_quiet_step (fail))
        refine wpQuiet_nil ?_
        rfl
      have g1 := stay hb' H1.out
      have g0 := stay hb' H0.out
      have gB := HB.out.trans (hb'.mono HB.out.size)
      clear b1 d2 H0 H1 HB hb'
      have b1 : w1'.cell? ⟨w.heap.size + 1, 0, none⟩ = some (.int .u64 (a : Int)) := blk_cell (j := 0) g1 rfl
      have z1 := blk_frozen (j := 0) g1
      have s1 : (w1'.setCell ⟨w.heap.size + 1, 0, none⟩ (.int .u64 (q : Int))).heap[w.heap.size + 1]? = some (.cells #[.int .u64 (q : Int), .int .u64 0, .int .i64 (dk : Int)] 68) := blk_set g1 _
      have s0 := blk_other g0 (show w.heap.size ≠ w.heap.size + 1 by omega) (b := w.heap.size + 1) (j := 0) (.int .u64 (q : Int))
      have sB := gB.setCell (p := ⟨w.heap.size + 1, 0, none⟩) (by simp) (.int .u64 (q : Int))
      have S1 := Lib.hid s1
      have S0 := Lib.hid s0
      have SB := Lib.hid sB
      have T3 := Lib.hid ((sB.cell (p := ⟨mb, mo + k * 3 + 2, none⟩) hmb).trans D3.out)
      clear g1 g0 gB s1 s0 sB
      simp only [List.drop_succ_cons, List.drop_zero]
      go_wp2_with fail
      clear b1 z1
      generalize (w1'.setCell ⟨w.heap.size + 1, 0, none⟩ (.int .u64 (q : Int))) = W2 at *
      have b2 : W2.cell? ⟨w.heap.size + 1, 2, none⟩ = some (.int .i64 (dk : Int)) := blk_cell (j := 2) S1.out rfl
      refine region_last2 (aQ := ?aQ2) 10 (by kernel_rfl) (by kernel_rfl) (fun w2 => ?hq2) (fun w2' hb2' => ?hh2)
      case hq2 =>
        have c1 := fun g => ext2_cell w2 g b2
        have c2 := fun g => ext2_cell w2 g T3.out
        simp only [List.take_succ_cons, List.take_zero]
        repeat (go_big_quiet_step (fail))
        refine wpQuiet_nil ?_
        rfl
      have g1 := stay hb2' S1.out
      have g0 := stay hb2' S0.out
      have gB := SB.out.trans (hb2'.mono SB.out.size)
      clear b2 T3 S0 S1 SB hb2'
      have z1 := blk_frozen (j := 2) g1
      have b2 : w2'.cell? ⟨w.heap.size + 1, 2, none⟩ = some (.int .i64 (dk : Int)) := blk_cell (j := 2) g1 rfl
      have s1 : (w2'.setCell ⟨w.heap.size + 1, 2, none⟩ (.int .i64 (dq : Int))).heap[w.heap.size + 1]? = some (.cells #[.int .u64 (q : Int), .int .u64 0, .int .i64 (dq : Int)] 68) := blk_set g1 _
      have s0 := blk_other g0 (show w.heap.size ≠ w.heap.size + 1 by omega) (b := w.heap.size + 1) (j := 2) (.int .i64 (dq : Int))
      have sB := gB.setCell (p := ⟨w.heap.size + 1, 2, none⟩) (by simp) (.int .i64 (dq : Int))
      have t1 := (sB.cell (p := ⟨nb, no + k * 3 + 2, none⟩) hnb).trans D1.out
      have S1 := Lib.hid s1
      have S0 := Lib.hid s0
      have SB := Lib.hid sB
      have e3 : (k : Int) + (1 + (s : Int)) = ((k + 1 + s : Nat) : Int) := by omega
      obtain ⟨j, hj⟩ : ∃ j, k + 1 + s = j := ⟨_, rfl⟩
      rw [hj] at e3 HOP hs6
      clear g1 g0 gB s1 s0 sB
      simp only [List.drop_succ_cons, List.drop_zero]
      go_wp2_with fail
      refine ⟨⟨j, app K F, nx, HOP.out, rfl, SB.out, S0.out, ?_⟩, by simp [intOf]; omega⟩
      rw [HQ.out.1, HQ.out.2]
      exact S1.out
    · have hend := hop.end HY.out hlt (by rw [hl]; exact hn)
      obtain ⟨hw6, hd6, _⟩ := hop.small HY.out HWT.out
      have hkL := hop.all
      rw [hl] at hkL
      have hR := hop.ends hlt
      have HE : Hid ((k = n ↔ IsF (Y.take n)) ∧ (k = n → rows K = Y.take n)) := Lib.hid hend
      have HR := Lib.hid hR
      clear hR
      obtain ⟨a, ha⟩ : ∃ a, (wrs K).length = a := ⟨_, rfl⟩
      obtain ⟨dk, hdk⟩ : ∃ a, dps K = a := ⟨_, rfl⟩
      rw [ha, hdk] at h1
      have HA := Lib.hid (And.intro ha hdk)
      rw [ha] at hw6
      rw [hdk] at hd6
      have K1 := Lib.hid fun w => hsize_walk a w (by unfold B; omega)
      have hz9 := hz_le (n := a) (by unfold B; omega)
      obtain ⟨q, hq⟩ : ∃ q, hz a + a = q := ⟨_, rfl⟩
      have e1 : ((hz a : Nat) : Int) + (a : Int) = (q : Int) := by omega
      have HQ := Lib.hid hq
      obtain ⟨z, hz'⟩ : ∃ z, hz a = z := ⟨_, rfl⟩
      rw [hz'] at K1 hz9 e1
      obtain ⟨dq, hdq⟩ : ∃ q, dk + 1 = q := ⟨_, rfl⟩
      rw [hdq] at h1
      have HD := Lib.hid hdq
      have b1 : wr.cell? ⟨w.heap.size + 1, 0, none⟩ = some (.int .u64 (a : Int)) := blk_cell (j := 0) h1 rfl
      have hq6 : q ≤ 2000000 := by omega
      have H0 := Lib.hid h0
      have H1 := Lib.hid h1
      have HB := Lib.hid hb
      clear hend hop h0 h1 hb HWT HN HM HML hq hz' ha hdk hdq
      go_wp2_with fail
      refine region_last2 (aQ := ?aQ3) 7 (by kernel_rfl) (by kernel_rfl) (fun w1 => ?hq3) (fun w1' hb' => ?hh3)
      case hq3 =>
        have c1 := fun g => ext2_cell w1 g b1
        simp only [List.take_succ_cons, List.take_zero]
        repeat (go_big_quiet_step ((go_at_call 60; exact calls_ext (K1.out _))))
        refine wpQuiet_nil ?_
        rfl
      have g1 := stay hb' H1.out
      have g0 := stay hb' H0.out
      have gB := HB.out.trans (hb'.mono HB.out.size)
      clear b1 H0 H1 HB hb' K1
      have b1 : w1'.cell? ⟨w.heap.size + 1, 1, none⟩ = some (.int .u64 0) := blk_cell (j := 1) g1 rfl
      have z1 := blk_frozen (j := 1) g1
      have s1 : (w1'.setCell ⟨w.heap.size + 1, 1, none⟩ (.int .u64 (q : Int))).heap[w.heap.size + 1]? = some (.cells #[.int .u64 (a : Int), .int .u64 (q : Int), .int .i64 (dq : Int)] 68) := blk_set g1 _
      have s0 := blk_other g0 (show w.heap.size ≠ w.heap.size + 1 by omega) (b := w.heap.size + 1) (j := 1) (.int .u64 (q : Int))
      have sB := gB.setCell (p := ⟨w.heap.size + 1, 1, none⟩) (by simp) (.int .u64 (q : Int))
      have t0 : (w1'.setCell ⟨w.heap.size + 1, 1, none⟩ (.int .u64 (q : Int))).cell? ⟨w.heap.size + 1, 0, none⟩ = some (.int .u64 (a : Int)) := blk_cell (j := 0) s1 rfl
      have t1 : (w1'.setCell ⟨w.heap.size + 1, 1, none⟩ (.int .u64 (q : Int))).cell? ⟨w.heap.size + 1, 1, none⟩ = some (.int .u64 (q : Int)) := blk_cell (j := 1) s1 rfl
      have t2 : (w1'.setCell ⟨w.heap.size + 1, 1, none⟩ (.int .u64 (q : Int))).cell? ⟨w.heap.size + 1, 2, none⟩ = some (.int .i64 (dq : Int)) := blk_cell (j := 2) s1 rfl
      have y0 := blk_frozen (j := 0) s0
      have y1 := blk_frozen (j := 1) s0
      have y2 := blk_frozen (j := 2) s0
      have x0 := blk_cell (j := 0) s0 rfl
      have x1 := blk_cell (j := 1) s0 rfl
      have x2 := blk_cell (j := 2) s0 rfl
      have S0 := Lib.hid s0
      have SB := Lib.hid sB
      clear g1 g0 gB s1 s0 sB
      simp only [List.drop_succ_cons, List.drop_zero]
      go_upto_region 8 with fail
      generalize (w1'.setCell ⟨w.heap.size + 1, 1, none⟩ (.int .u64 (q : Int))) = W2 at *
      clear b1 z1
      go_wp2_with fail
      refine bodyPost_ret (v := .tuple #[.agg #[.int .u64 (a : Int), .int .u64 (q : Int), .int .i64 (dq : Int)], .bool ((k : Int) == (n : Int))]) (results_pair rfl _ _ _ 68 #[.int .u64 (a : Int), .int .u64 (q : Int), .int .i64 (dq : Int)] (0, 0) _ _ rfl (blk_set (blk_set (blk_set S0.out _) _) _) Tryd.underlying68 rfl Tryd.infoM rfl) rfl
        ⟨?_, ((SB.out.setCell (Nat.le_refl _) _).setCell (Nat.le_refl _) _).setCell (Nat.le_refl _) _⟩
      rw [HR.out]
      refine ⟨?_, HE.out⟩
      simp only
      rw [HA.out.1, HA.out.2, HQ.out, HD.out, show ((k : Int) == (n : Int)) = decide (k = n) from by by_cases h : k = n <;> simp [h]; omega]
end Go.Proofs.YtmcbaolecmkpdaaDoor
