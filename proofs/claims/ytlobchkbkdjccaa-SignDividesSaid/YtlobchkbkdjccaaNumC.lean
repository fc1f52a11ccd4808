/- What the functions High, Plus and Minus of the document's numbers of any length do; all older memory is as it was. -/
import Derived.Test.YtlobchkbkdjccaaNumB
namespace Go.Proofs.Ytlobchkbkdjccaa
open Go.RowKit SmWord
set_option maxRecDepth 100000

namespace SmWord
theorem dig_shift (X s i : Nat) : dig (X / 256 ^ s) i = dig X (s + i) := by
  unfold dig; rw [Nat.div_div_eq_div_mul, ← Nat.pow_add]
/-- Taking off, digit by digit: Z + Y is X. -/
theorem minus_step {X Y Z k : Nat} (h : Z + Y = X) : (dig X k : Int) - dig Y k - carry Z Y k = dig Z k - 256 * carry Z Y (k + 1) ∧ carry Z Y (k + 1) ≤ 1 := by
  obtain ⟨h1, h2⟩ := carry_step Z Y k
  rw [h] at h1
  refine ⟨?_, (carry_eq Z Y (k + 1)).2⟩
  omega
end SmWord

/-- What returns a number in new memory. -/
def RetF (n X : Nat) (w : World) (e : Ending) (w' : World) : Prop := ∃ v, e = .returned v ∧ NumS w' v n X ∧ (∀ b, v.ownBlock = some b → w.heap.size ≤ b) ∧ Below w.heap.size w w'
theorem NumS.apart {w : World} {v : Value} {n X b0 j : Nat} {x : Value} (h : NumS w v n X) (ha : ∀ b, v.ownBlock = some b → b ≠ b0) : NumS (w.setCell ⟨b0, j, none⟩ x) v n X := by
  obtain ⟨⟨A, c, rfl, hnc, hs⟩, hl, hm⟩ := h
  refine ⟨⟨A, c, rfl, hnc, fun hn => ?_⟩, hl, hm⟩
  obtain ⟨b, off, rfl, hlt, hc⟩ := hs hn
  have hne : b ≠ b0 := ha b rfl
  refine ⟨b, off, rfl, by simpa using hlt, fun i hi => ?_⟩
  have e : (w.setCell ⟨b0, j, none⟩ x).heap[b]? = w.heap[b]? := by
    obtain ⟨o, ho⟩ : ∃ o, w.heap[b]? = some o := ⟨_, Array.getElem?_eq_getElem hlt⟩
    rw [ho]; exact blk_other ho hne x
  rw [World.cell?_of_block (w := w) (a := ⟨b, off + i, none⟩) e]
  exact hc i hi
theorem at_below (v : Value) (n X i : Nat) (w : World) (h : NumS w v n X) (hi : i ≤ 1000000) :
    Calls Try.prog 49 #[v, .int .i64 (i : Int)] w fun e w' => e = .returned (.int .i64 ((dig X i : Nat) : Int)) ∧ Below w.heap.size w w' :=
  (at_ref v n X i w h hi).mono fun _ _ ⟨h1, h2⟩ => ⟨h1, h2 ▸ Below.refl _ _⟩
theorem own_stays {w w' : World} {base : Nat} {e : TypeId} {s : Nat} {v : Value} {n : Nat} {xs : List Value} (h : w.ownsRow base e s v n xs) (hb : Below w.heap.size w w') : w'.ownsRow base e s v n xs := by
  obtain ⟨h0, h⟩ := h
  refine ⟨h0, ?_⟩
  rcases h with h | ⟨g, cap, cur, h1, h2, h3, h4⟩
  · exact .inl h
  · exact .inr ⟨g, cap, cur, h1, h2, Below.stays hb h3, h4⟩

set_option maxHeartbeats 2000000 in
theorem minus_ref (v u : Value) (n m X Y Z : Nat) (w : World) (h : NumS w v n X) (g : NumS w u m Y) (hZ : Z + Y = X) : Calls Try.prog 48 #[v, u] w (RetF n Z w) := by
  obtain ⟨i0, hi, hz0, hz1, hz2⟩ := info_parts Try.info3
  have h' := h
  have g' := g
  obtain ⟨⟨A, c, rfl, hnc, _⟩, hl, hm⟩ := h
  obtain ⟨⟨A', c', rfl, hnc', _⟩, gl, gm⟩ := g
  have HS : Hid (Z < 256 ^ n) := Lib.hid (by omega)
  have HA := Lib.hid h'
  have HB := Lib.hid g'
  have HZ := Lib.hid hZ
  clear h' g' hl gl hZ
  go_enter Try.func48, Try.ntmps48
  go_wp2_with fail
  go_loopw [5, 6, 12] (fun v s i wr => ∃ k : Nat, k ≤ n ∧ i = .int .i64 (k : Int) ∧ s = .int .i64 ((carry Z Y k : Nat) : Int) ∧ wr.ownsRow w.heap.size 3 1 v k (dg Z k) ∧ Below w.heap.size w wr) (fun _ _ i _ => n - (intOf i).toNat)
  case atStart => exact ⟨0, Nat.zero_le _, rfl, by rw [carry_zero]; rfl, own_empty _ (Nat.le_refl _), (Below.refl _ _).alloc (Nat.le_refl _) _⟩
  case round =>
    obtain ⟨k, hk, rfl, rfl, hown, bW⟩ := hrel
    have sW := bW.size
    by_cases hlt : k < n
    · have d1 := dig_lt X k
      have d2 := dig_lt Y k
      have d4 := dig_lt Z k
      have d3 := (carry_eq Z Y k).2
      obtain ⟨m1, m2⟩ := minus_step (k := k) HZ.out
      have HM := Lib.hid m1
      clear m1
      obtain ⟨⟨A1, c1, e1, _, hs1⟩, _, _⟩ := HA.out.stays bW
      cases e1
      obtain ⟨b, off, rfl, hbl, hc⟩ := hs1 (by omega)
      have k1 := hc k hlt
      clear hs1 hc
      go_upto_region 6 with fail
      go_cut [8] (fun s8 wx => s8 = .int .i64 (((dig Z k : Nat) : Int) - 256 * ((carry Z Y (k + 1) : Nat) : Int)) ∧ Below wr.heap.size wr wx)
      case first =>
        have k2 := fun g : Ext wr => (g.below.cell (p := ⟨b, off + k, none⟩) hbl).trans k1
        refine region_ext (by kernel_rfl) (by kernel_rfl) ?_
        repeat (go_big_quiet_step ((go_at_call 49; with_reducible exact calls_ext (at_below _ m Y k _ ((HB.out.stays bW).stays (Ext.below _)) (by omega)))))
        refine wpQuiet_nil ?_
        rintro _ ⟨g, rfl⟩
        go_wp2_with fail
        go_meet
        exact ⟨by rw [HM.out], g.below⟩
      case rest =>
        obtain ⟨rfl, b1⟩ := hcut
        replace hown := own_stays hown b1
        replace bW := bW.trans (b1.mono bW.size)
        have sC := Nat.le_trans sW b1.size
        clear b1 k1 hbl HM
        generalize wc = wr at *
        by_cases hz : carry Z Y (k + 1) = 0
        · have HZ0 := Lib.hid hz
          rw [hz, show ((dig Z k : Nat) : Int) - 256 * ((0 : Nat) : Int) = ((dig Z k : Nat) : Int) by omega]
          clear hz m2
          go_wp2_with (at_builtin; refine wpList_append_own _ rfl _ _ 45 rfl (w.heap.size) 3 i0 (.int .i64 0) 1 8 Try.underlying45 hi hz0 hz1 hz2 rfl (by decide) _ _ _ rfl (hown.alloc _) ⟨wr.heap.size, 0, none⟩ 1 1 [.int .i64 (((dig Z k : Nat) : Int))] rfl rfl ?c1 ?c2 ?c3 ?c4 ?c5 ?_)
          case c1 => exact own_one _ _
          case c2 => simp [Value.oneCell']
          case c3 => unfold maxLen; omega
          case c4 => omega
          case c5 => simp; omega
          intro v' w3 hown' hgrow _
          rw [dg_succ] at hown'
          have hr := fun g hg => (hown.lt g hg).1
          have bX : Below w.heap.size w w3 := (bW.alloc (o := .cells #[.int .i64 ((dig Z k : Nat) : Int)] 3) (by omega)).grown hgrow (by simp; omega) (fun g hg => hr g hg)
          clear hown hgrow bW hr
          go_wp2_with fail
          exact ⟨⟨k + 1, by omega, by go_num, by rw [HZ0.out]; rfl, hown', bX⟩, by simp only [intOf]; omega⟩
        · have hz1 : carry Z Y (k + 1) = 1 := by omega
          have HZ0 := Lib.hid hz1
          rw [hz1, show ((dig Z k : Nat) : Int) - 256 * ((1 : Nat) : Int) = ((dig Z k : Nat) : Int) - 256 by omega]
          clear hz hz1 m2
          go_wp2_with (at_builtin; refine wpList_append_own _ rfl _ _ 45 rfl (w.heap.size) 3 i0 (.int .i64 0) 1 8 Try.underlying45 hi hz0 hz1 hz2 rfl (by decide) _ _ _ rfl (hown.alloc _) ⟨wr.heap.size, 0, none⟩ 1 1 [.int .i64 (((dig Z k : Nat) : Int))] rfl rfl ?c1 ?c2 ?c3 ?c4 ?c5 ?_)
          case c1 => exact own_one _ _
          case c2 => simp [Value.oneCell']
          case c3 => unfold maxLen; omega
          case c4 => omega
          case c5 => simp; omega
          intro v' w3 hown' hgrow _
          rw [dg_succ] at hown'
          have hr := fun g hg => (hown.lt g hg).1
          have bX : Below w.heap.size w w3 := (bW.alloc (o := .cells #[.int .i64 ((dig Z k : Nat) : Int)] 3) (by omega)).grown hgrow (by simp; omega) (fun g hg => hr g hg)
          clear hown hgrow bW hr
          go_wp2_with fail
          exact ⟨⟨k + 1, by omega, by go_num, by rw [HZ0.out]; rfl, hown', bX⟩, by simp only [intOf]; omega⟩
    · obtain rfl : k = n := by omega
      go_wp2_with fail
      go_ret
      exact ⟨_, rfl, NumS.of_owns hown HS.out (by omega), fun b hb => (hown.lt b hb).1, bW⟩
end Go.Proofs.Ytlobchkbkdjccaa
