/- What measures does: the measures of a row's nodes, the last one first. -/
import Derived.Test.YtfpeliolngfkpaaRrH
namespace Go.Proofs.Ytfpeliolngfkpaa
open Go.RowKit SmWord
set_option maxRecDepth 100000

theorem Try.infoM3 : (Try.prog.info? 49).map (fun i => (i.zero, i.size, i.bytes)) = some (some (.agg #[.int .u64 0, .int .u64 0, .int .i64 0]), 3, 24) := by kernel_rfl
theorem Try.partsM : ∃ i, Try.prog.info? 49 = some i ∧ i.zero = some (.agg #[.int .u64 0, .int .u64 0, .int .i64 0]) ∧ i.size = 3 ∧ i.bytes = 24 := info_parts Try.infoM3
theorem make_ms (n : Nat) (hn : n ≤ 1000000) (w : World) : ∃ c : Array Value, c.size = 3 * n ∧ (Instr.makeSlice 45 (.int .i64 (n : Int)) (.int .i64 (n : Int))).run Try.prog w = .ok (.slice (some ⟨w.heap.size, 0, none⟩) n n) (w.alloc (.cells c 49)) := by
  obtain ⟨i, hi, hz, hs, hb⟩ := Try.partsM
  refine ⟨madeCells #[.int .u64 0, .int .u64 0, .int .i64 0] (n * 3), by rw [size_madeCells]; omega, ?_⟩
  have := run_make (P := Try.prog) w 45 49 i _ Try.underlying45 hi hz .i64 .i64 n n (by omega) (by omega) (by rw [hb]; omega) (by omega)
  rw [hs] at this
  simp only [Int.toNat_natCast] at this
  exact this
/-- Measures among cells. -/
def MsIn (c : Array Value) (off : Nat) (l : List Ms) : Prop := ∀ i x, l[i]? = some x → c[off + 3 * i]? = some (.int .u64 ((x.inn : Nat) : Int)) ∧ c[off + 3 * i + 1]? = some (.int .u64 ((x.who : Nat) : Int)) ∧ c[off + 3 * i + 2]? = some (.int .i64 ((x.dep : Nat) : Int))
theorem MsIn.cons {c : Array Value} {p : Nat} {l : List Ms} (h : MsIn c (3 * (p + 1)) l) (hp : 3 * p + 2 < c.size) (x : Ms) :
    MsIn (((c.setIfInBounds (3 * p) (.int .u64 ((x.inn : Nat) : Int))).setIfInBounds (3 * p + 1) (.int .u64 ((x.who : Nat) : Int))).setIfInBounds (3 * p + 2) (.int .i64 ((x.dep : Nat) : Int))) (3 * p) (x :: l) := by
  intro i y hy
  cases i with
  | zero =>
    cases hy
    simp only [Nat.mul_zero, Nat.add_zero]
    refine ⟨?_, ?_, ?_⟩
    · rw [Array.getElem?_setIfInBounds_ne (by omega), Array.getElem?_setIfInBounds_ne (by omega), Array.getElem?_setIfInBounds_self_of_lt (by omega)]
    · rw [Array.getElem?_setIfInBounds_ne (by omega), Array.getElem?_setIfInBounds_self_of_lt (by simp; omega)]
    · rw [Array.getElem?_setIfInBounds_self_of_lt (by simp; omega)]
  | succ i =>
    have := h i y hy
    rw [show 3 * (p + 1) + 3 * i = 3 * p + 3 * (i + 1) by omega] at this
    refine ⟨?_, ?_, ?_⟩
    · rw [Array.getElem?_setIfInBounds_ne (by omega), Array.getElem?_setIfInBounds_ne (by omega), Array.getElem?_setIfInBounds_ne (by omega)]; exact this.1
    · rw [Array.getElem?_setIfInBounds_ne (by omega), Array.getElem?_setIfInBounds_ne (by omega), Array.getElem?_setIfInBounds_ne (by omega)]; exact this.2.1
    · rw [Array.getElem?_setIfInBounds_ne (by omega), Array.getElem?_setIfInBounds_ne (by omega), Array.getElem?_setIfInBounds_ne (by omega)]; exact this.2.2
theorem MsIn.mem {w : World} {b : Nat} {c : Array Value} {t : TypeId} {off : Nat} {l : List Ms} (h : MsIn c off l) (hb : w.heap[b]? = some (.cells c t)) : MsS w (some ⟨b, off, none⟩) l := fun _ =>
  ⟨b, off, rfl, (Array.getElem?_eq_some_iff.1 hb).1, fun i x hx => ⟨blk_cell hb (h i x hx).1, blk_cell hb (h i x hx).2.1, blk_cell hb (h i x hx).2.2⟩⟩
/-- All of a row that lies behind a place, and the node there, are items: or the row is none. -/
theorem isF_here {x : Nd} {Y : List Nd} {G : Fo} (hY : rows G = Y) : IsF (x :: Y) ↔ (x.ls = false ∧ x.sz = 0) ∨ (x.ls = true ∧ x.by' = [] ∧ ∃ n : Nat, x.sz = (n : Int) ∧ n ≤ Y.length ∧ IsF (Y.take n)) := by
  cases hl : x.ls with
  | false => rw [isF_st _ _ hl]; simp; exact fun _ => ⟨G, hY⟩
  | true =>
    rw [isF_li _ _ hl]
    simp only [Bool.true_eq_false, false_and, false_or, true_and]
    refine and_congr_right fun _ => exists_congr fun n => and_congr_right fun _ => and_congr_right fun hn => ⟨fun h => h.1, fun h => ⟨h, ?_⟩⟩
    obtain ⟨K, hK⟩ := h
    have e : Y = rows K ++ Y.drop n := by rw [hK, List.take_append_drop]
    exact (isF_app ⟨K, rfl⟩).1 (by rw [← e]; exact ⟨G, hY⟩)
/-- The measures that a node more adds. -/
theorem meas_st {x : Nd} {G : Fo} (hl : x.ls = false) (hs : x.sz = 0) : rows (.st x.by' G) = x :: rows G ∧ meas (.st x.by' G) = ⟨x.by'.length, (ws x.by').length, 0⟩ :: meas G := by
  refine ⟨?_, rfl⟩
  cases x
  simp only at hl hs
  subst hl hs
  rfl
theorem meas_li {x : Nd} {Y : List Nd} {G K : Fo} {n : Nat} (hY : rows G = Y) (hl : x.ls = true) (hb : x.by' = []) (hs : x.sz = (n : Int)) (hn : n ≤ Y.length) (hK : rows K = Y.take n) :
    ∃ G', rows G' = x :: Y ∧ meas G' = ⟨(wrs K).length, hz (wrs K).length + (wrs K).length, dps K + 1⟩ :: meas G := by
  have e : Y = rows K ++ Y.drop n := by rw [hK, List.take_append_drop]
  obtain ⟨nx, hnx⟩ : IsF (Y.drop n) := (isF_app ⟨K, rfl⟩).1 (by rw [← e]; exact ⟨G, hY⟩)
  refine ⟨.li K nx, ?_, ?_⟩
  · rw [rows, hnx, ← e]
    cases x
    simp only at hl hb hs
    subst hl hb hs
    rw [hK, List.length_take, Nat.min_eq_left hn]
  · rw [meas, ← meas_app, rows_inj (app K nx) G (by rw [rows_app, hnx, ← e, hY])]
theorem ws_wz (b : List Nat) : (ws b).length = wz b.length (b.getD 0 0) := by
  unfold ws wz
  split
  · rfl
  · rw [List.length_append, hea_hz]
theorem one_iff (x : Nd) (Y : List Nd) : (∃ F, One F ∧ rows F = x :: Y) ↔ x.sz = (Y.length : Int) ∧ IsF (x :: Y) := by
  constructor
  · rintro ⟨F, hF, h⟩
    refine ⟨?_, F, h⟩
    cases F with
    | no => cases hF
    | st b nx =>
      cases (hF : nx = .no)
      simp only [rows, List.cons.injEq] at h
      obtain ⟨rfl, rfl⟩ := h
      rfl
    | li k nx =>
      cases (hF : nx = .no)
      simp only [rows, List.cons.injEq, List.append_nil] at h
      obtain ⟨rfl, rfl⟩ := h
      rfl
  · rintro ⟨hs, F, h⟩
    cases F with
    | no => cases h
    | st b nx =>
      simp only [rows, List.cons.injEq] at h
      obtain ⟨rfl, rfl⟩ := h
      simp only at hs
      have : rows nx = [] := List.length_eq_zero_iff.1 (by omega)
      cases nx with
      | no => exact ⟨.st b .no, rfl, rfl⟩
      | st _ _ => cases this
      | li _ _ => cases this
    | li k nx =>
      simp only [rows, List.cons.injEq] at h
      obtain ⟨rfl, rfl⟩ := h
      simp only [List.length_append] at hs
      have : rows nx = [] := List.length_eq_zero_iff.1 (by omega)
      cases nx with
      | no => exact ⟨.li k .no, rfl, rfl⟩
      | st _ _ => cases this
      | li _ _ => cases this
theorem fit_no {x : Nd} {Y : List Nd} {G : Fo} {L : Nat} (hY : rows G = Y) (hL : Y.length = L) (h : fit x.ls x.by'.length x.sz L = false) : ¬ IsF (x :: Y) := by
  rw [isF_here hY]
  rintro (⟨h1, h2⟩ | ⟨h1, h2, n, h3, h4, _⟩)
  · simp [fit, h1, h2] at h
  · rw [hL] at h4
    simp [fit, h1, h2, h3] at h
    omega
theorem fit_yes {ls : Bool} {nb L : Nat} {sz : Int} (h : fit ls nb sz L = true) : (ls = false ∧ sz = 0) ∨ (ls = true ∧ nb = 0 ∧ ∃ s : Nat, sz = (s : Int) ∧ s ≤ L) := by
  cases ls with
  | false => simp [fit] at h; exact .inl ⟨rfl, h⟩
  | true =>
    simp [fit] at h
    exact .inr ⟨rfl, h.1, sz.toNat, by omega, by omega⟩
/-- How far measures has come: the nodes from place p on are items, and measured; or one is amiss. -/
structure Met (X : List Nd) (p : Nat) (G : Fo) : Prop where
  rest : rows G = X.drop p
  le : p ≤ X.length
theorem Met.not {X : List Nd} {p : Nat} {G : Fo} {x : Nd} (h : Met X (p + 1) G) (hx : X[p]? = some x) (hb : ¬ IsF (x :: X.drop (p + 1))) : ¬ IsF X := by
  rintro ⟨F, rfl⟩
  refine hb ?_
  have : (rows F).drop p = x :: (rows F).drop (p + 1) := by
    obtain ⟨hlt, e⟩ := List.getElem?_eq_some_iff.1 hx
    rw [List.drop_eq_getElem_cons hlt, e]
  rw [← this]
  clear this hx h hb
  induction F generalizing p with
  | no => exact ⟨.no, by simp [rows]⟩
  | st b nx ih =>
    cases p with
    | zero => exact ⟨.st b nx, rfl⟩
    | succ p => exact ih
  | li k nx ihk ih =>
    cases p with
    | zero => exact ⟨.li k nx, rfl⟩
    | succ p =>
      rw [rows, List.drop_succ_cons]
      by_cases hp : p ≤ (rows k).length
      · rw [List.drop_append_of_le_length hp]
        obtain ⟨F', hF'⟩ := ihk (p := p)
        exact ⟨app F' nx, by rw [rows_app, hF']⟩
      · rw [List.drop_append, List.drop_eq_nil_of_le (by omega), List.nil_append]
        exact ih
/-- What is cut off a slice ahead, and behind: where it lies. -/
theorem slice_ahead {P : Program} {t : TypeId} {s : Nat} (ht : P.underlying t = some (.slice (P.elem t))) (hs : ∀ w, (sizeOf (P.elem t)).run P w = .ok s w) (b off : Nat) {n c p : Nat} (hp : p ≤ n) (hc : n ≤ c) :
    ∃ o, (p < n → o = off + p * s) ∧ (p < c → o = off + p * s) ∧ ∀ w, (Instr.sliceAt t (.slice (some ⟨b, off, none⟩) n c) (some (.int .i64 (p : Int))) none none).run P w = .ok (.slice (some ⟨b, o, none⟩) (n - p) (c - p)) w := by
  have hadd : (⟨b, off, none⟩ : Addr).add (p * s) = ⟨b, off + p * s, none⟩ := by unfold Addr.add; split <;> simp_all
  refine ⟨if c = p then off else off + p * s, fun h => if_neg (by omega), fun h => if_neg (by omega), fun w => ?_⟩
  rw [run_sliceAt_slice w _ _ _ _ _ ht, run_slice_l w _ _ _ _ ht .i64 (p : Int) (by omega) (by omega), hs]
  simp only [Result.andThen_ok, sliced, Int.toNat_natCast]
  by_cases h : c = p
  · simp [h]
  · simp [h, hadd]
theorem slice_behind {P : Program} {t : TypeId} {s : Nat} (ht : P.underlying t = some (.slice (P.elem t))) (hs : ∀ w, (sizeOf (P.elem t)).run P w = .ok s w) (b off : Nat) {n c p : Nat} (hp : p ≤ c) (w : World) :
    (Instr.sliceAt t (.slice (some ⟨b, off, none⟩) n c) none (some (.int .i64 (p : Int))) none).run P w = .ok (.slice (some ⟨b, off, none⟩) p c) w := by
  have hadd : (⟨b, off, none⟩ : Addr).add 0 = ⟨b, off, none⟩ := by unfold Addr.add; split <;> simp_all
  rw [run_sliceAt_slice w _ _ _ _ _ ht, run_slice_h w _ _ _ _ ht .i64 (p : Int) (by omega) (by omega), hs]
  simp only [Result.andThen_ok, sliced, Int.toNat_natCast]
  by_cases h : c = 0
  · simp [h]
  · simp [h, hadd]
theorem Try.sN (w : World) : (sizeOf (Try.prog.elem 22)).run Try.prog w = .ok 3 w := by rw [show Try.prog.elem 22 = 43 by kernel_rfl, Try.sizeOf43]
theorem Try.sM (w : World) : (sizeOf (Try.prog.elem 45)).run Try.prog w = .ok 3 w := by rw [show Try.prog.elem 45 = 49 by kernel_rfl, Try.sizeOf49]
theorem Try.s8 (w : World) : (sizeOf (Try.prog.elem 25)).run Try.prog w = .ok 1 w := by rw [show Try.prog.elem 25 = 5 by kernel_rfl, Try.sizeOf5]
end Go.Proofs.Ytfpeliolngfkpaa
