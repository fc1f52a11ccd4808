/- What Encode of package rlp does: a row that is one item, of a right depth or too deep, and one that isn't. -/
import Derived.Test.YtfpeliolngfkpaaRrL
namespace Go.Proofs.Ytfpeliolngfkpaa
open Go.RowKit SmWord
set_option maxRecDepth 100000

set_option maxHeartbeats 1000000 in
theorem enc_deep (n c df : Nat) (hdf : 64 < df) (b off : Nat) (w : World) 
    (KM : Hid (Calls Try.prog 16 #[.slice (some ⟨b, off, none⟩) n c] w fun e w' => (∃ mb cs, e = .returned (.tuple #[.slice (some ⟨mb, 0, none⟩) n n, .bool true]) ∧ w'.heap[mb]? = some (.cells cs 49) ∧ cs[2]? = some (.int .i64 (df : Int))) ∧ Below w.heap.size w w')) (hn : 0 < n) :
    Calls Try.prog 9 #[.slice (some ⟨b, off, none⟩) n c] w fun e w' => e = .returned (.tuple #[.slice none 0 0, .int .i64 4]) ∧ Below w.heap.size w w' := by
  go_enter Try.func9, Try.ntmps9
  go_wp2_with fail
  refine KM.out.mono ?_
  rintro e w1 ⟨⟨mb, cs, rfl, hmh, hms⟩, b1⟩
  have c2 : w1.cell? ⟨mb, 2, none⟩ = some (.int .i64 (df : Int)) := blk_cell hmh hms
  have hq1 : decide ((64 : Int) < (df : Int)) = true := decide_eq_true (by omega)
  have HB := Lib.hid b1
  clear hms hmh b1
  go_wp2_with fail
  go_ret2
  exact ⟨rfl, HB.out⟩
theorem enc_no (A : Option Addr) (n c : Nat) (w : World)
    (KM : Hid (Calls Try.prog 16 #[.slice A n c] w fun e w' => e = .returned (.tuple #[.slice none 0 0, .bool false]) ∧ Below w.heap.size w w')) :
    Calls Try.prog 9 #[.slice A n c] w fun e w' => e = .returned (.tuple #[.slice none 0 0, .int .i64 2]) ∧ Below w.heap.size w w' := by
  go_enter Try.func9, Try.ntmps9
  go_wp2_with fail
  refine KM.out.mono ?_
  rintro e w1 ⟨rfl, b1⟩
  have HB := Lib.hid b1
  clear b1
  go_wp2_with fail
  go_ret2
  exact ⟨rfl, HB.out⟩
theorem one_pos {F : Fo} (h : One F) : 0 < (rows F).length := by
  cases F with
  | no => cases h
  | st b nx => simp [rows]
  | li k nx => simp [rows]
theorem one_head {F : Fo} (h : One F) : ∃ x0, (rows F)[0]? = some x0 ∧ x0.sz = ((rows F).length : Int) - 1 := by
  cases F with
  | no => cases h
  | st b nx => cases (h : nx = .no); exact ⟨_, rfl, by simp [rows]⟩
  | li k nx => cases (h : nx = .no); exact ⟨_, rfl, by simp [rows]⟩
theorem Arg.at {w : World} {A : Option Addr} {n c : Nat} {X : List Nd} (h : Arg w A n c X) (hn : 0 < n) : ∃ b off, A = some ⟨b, off, none⟩ ∧ b < w.heap.size ∧ ∀ i x, X[i]? = some x → NodeAt w b (off + 3 * i) x := by
  obtain ⟨b, off, e, hb, hc⟩ := h.cells.cells (by rw [h.len]; exact hn)
  exact ⟨b, off, e, hb, hc⟩
theorem Arg.below {w w' : World} {A : Option Addr} {n c : Nat} {X : List Nd} (h : Arg w A n c X) (hb : Below w.heap.size w w') : Arg w' A n c X := ⟨h.len, h.cap, h.nil, h.cells.below hb, h.small⟩
theorem encode_ok {F : Fo} (hone : One F) {X : List Nd} (hX : rows F = X) (hd : dps F ≤ 64) (hwt : wt X ≤ 1000000) {A : Option Addr} {n c : Nat} {w : World} (ha : Arg w A n c X) :
    Calls Try.prog 9 #[.slice A n c] w fun e w' => (∃ v, e = .returned (.tuple #[v, .int .i64 0]) ∧ w'.ownsRow w.heap.size 5 1 v (wrs F).length (lb8 (wrs F))) ∧ Below w.heap.size w w' := by
  have hn : 0 < n := by have := one_pos hone; rw [hX, ha.len] at this; exact this
  obtain ⟨b, off, rfl, hb, hc⟩ := ha.at hn
  obtain ⟨x0, h0, hs⟩ := one_head hone
  rw [hX, ha.len] at hs
  rw [hX] at h0
  refine enc_walk F hone X hX n c hwt hd b off w ha (Lib.hid ((measures_core X n ha.len hwt b off c ha.cap w hb hc (fun i x hx => (ha.small i x hx).2) x0 h0 hs).mono fun e w' h => ?_))
  obtain ⟨mb, cs, h1, h2, h3, h4⟩ := h.1.1 ⟨F, hX⟩
  exact ⟨⟨mb, cs, h1, h2, h3, h4 F hX⟩, h.2⟩
theorem encode_deep {F : Fo} (hone : One F) {X : List Nd} (hX : rows F = X) (hd : ¬ dps F ≤ 64) (hwt : wt X ≤ 1000000) {A : Option Addr} {n c : Nat} {w : World} (ha : Arg w A n c X) :
    Calls Try.prog 9 #[.slice A n c] w fun e w' => e = .returned (.tuple #[.slice none 0 0, .int .i64 4]) ∧ Below w.heap.size w w' := by
  have hn : 0 < n := by have := one_pos hone; rw [hX, ha.len] at this; exact this
  obtain ⟨b, off, rfl, hb, hc⟩ := ha.at hn
  obtain ⟨x0, h0, hs⟩ := one_head hone
  rw [hX, ha.len] at hs
  rw [hX] at h0
  refine enc_deep n c (dps F) (by omega) b off w (Lib.hid ((measures_core X n ha.len hwt b off c ha.cap w hb hc (fun i x hx => (ha.small i x hx).2) x0 h0 hs).mono fun e w' h => ?_)) hn
  obtain ⟨mb, cs, h1, h2, h3, h4⟩ := h.1.1 ⟨F, hX⟩
  obtain ⟨m0, hm0, _, hm2⟩ := one_meas hone
  have := (h4 F hX 0 m0 hm0).2.2
  rw [hm2] at this
  exact ⟨⟨mb, cs, h1, h3, this⟩, h.2⟩
theorem encode_no {X : List Nd} (hX : ¬ ∃ F, One F ∧ rows F = X) (hwt : wt X ≤ 1000000) {A : Option Addr} {n c : Nat} {w : World} (ha : Arg w A n c X) :
    Calls Try.prog 9 #[.slice A n c] w fun e w' => e = .returned (.tuple #[.slice none 0 0, .int .i64 2]) ∧ Below w.heap.size w w' := by
  have hn6 : n ≤ 1000000 := by have := wt_len X; have := ha.len; omega
  refine enc_no A n c w (Lib.hid ?_)
  by_cases hb : n = 0 ∨ ∃ x0, X[0]? = some x0 ∧ x0.sz ≠ (n : Int) - 1
  · exact (measures_bad X A n c ha.len w hn6 ha.cells hb).mono fun e w' h => ⟨h.1, by rw [h.2]; exact Below.refl _ _⟩
  · have hn : 0 < n := by
      apply Classical.byContradiction
      intro h
      exact hb (.inl (by omega))
    obtain ⟨x0, h0⟩ : ∃ x0, X[0]? = some x0 := ⟨_, List.getElem?_eq_getElem (by rw [ha.len]; exact hn)⟩
    have hs : x0.sz = (n : Int) - 1 := by
      apply Classical.byContradiction
      intro h
      exact hb (.inr ⟨x0, h0, h⟩)
    have hF : ¬ IsF X := fun hF => hX (by
      cases X with
      | nil => cases h0
      | cons x Y =>
        simp only [List.getElem?_cons_zero, Option.some.injEq] at h0
        subst h0
        exact (one_iff x Y).2 ⟨by have := ha.len; simp at this; omega, hF⟩)
    obtain ⟨b, off, rfl, hbl, hc⟩ := ha.at hn
    exact (measures_core X n ha.len hwt b off c ha.cap w hbl hc (fun i x hx => (ha.small i x hx).2) x0 h0 hs).mono fun e w' h => ⟨h.1.2 hF, h.2⟩
end Go.Proofs.Ytfpeliolngfkpaa
