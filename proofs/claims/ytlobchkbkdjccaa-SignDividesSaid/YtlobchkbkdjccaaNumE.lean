/- What the function Div of the document's numbers of any length does, where the divisor isn't 0: a quotient, and what is left; all older memory is as it was. -/
import Derived.Test.YtlobchkbkdjccaaNumD
namespace Go.Proofs.Ytlobchkbkdjccaa
open Go.RowKit SmWord
set_option maxRecDepth 100000

theorem dg_one (L n : Nat) : ∀ u ∈ dg L n, u.oneCell' = true := fun u hu => by
  obtain ⟨i, _, rfl⟩ := List.mem_map.1 hu
  rfl
theorem num_up_lt {L d R n : Nat} (h : 256 * L + d = R) (hL : L < 256 ^ n) (hd : d < 256) : R < 256 ^ (1 + n) := by
  rw [Nat.add_comm, Nat.pow_succ]; omega

set_option maxHeartbeats 4000000 in
theorem rdiv_pos (v u : Value) (n m X Y : Nat) (w : World) (h : NumS w v n X) (g : NumS w u m Y) (hY : 0 < Y) (hsm : n ≤ 400 ∧ m ≤ 400) : Calls Try.prog 31 #[v, u] w (RetD n (X / Y) (X % Y) w) := by
  obtain ⟨i0, hi, hz0, hz1, hz2⟩ := info_parts Try.info3
  have HA := Lib.hid h
  have HB := Lib.hid g
  have HY := Lib.hid g.lt
  have HP := Lib.hid hY
  have hXn := h.lt
  have HX := Lib.hid hXn
  have HQ : Hid (X / Y < 256 ^ n) := Lib.hid (Nat.lt_of_le_of_lt (Nat.div_le_self _ _) hXn)
  obtain ⟨⟨A, c, rfl, hnc, _⟩, hl, hm⟩ := h
  have hY0 : decide (Y = 0) = false := decide_eq_false (by omega)
  have hn400 : n ≤ 400 := hsm.1
  have hm400 : m ≤ 400 := hsm.2
  clear g hl hY hXn hsm hm
  go_enter Try.func31, Try.ntmps31
  go_upto_region 2 with (at_make; refine wpList_make_full _ rfl _ _ 45 rfl w.heap.size 3 i0 (.int .i64 0) 1 Try.underlying45 hi hz0 hz1 _ _ _ _ n rfl rfl rfl rfl ?b2 ?b3 ?b4 ?_)
  case b2 => rw [hz2]; omega
  case b3 => unfold maxLen; omega
  case b4 => exact Nat.le_refl _
  intro w1 hown hgrow
  have f6 := made_row hown
  have bW : Below w.heap.size w w1 := (Below.refl _ _).grown hgrow (Nat.le_refl _) (fun k hk => by cases hk)
  have sW : w.heap.size + 1 ≤ w1.heap.size := (Array.getElem?_eq_some_iff.1 f6).1
  clear hown hgrow
  rw [qall_none (Q := X / Y)] at f6
  go_wp2_with fail
  have e0 := own_empty w1 (base := 0) (Nat.zero_le _)
  have l7 := NumS.of_owns (X := 0) e0 (by decide) (by omega)
  clear e0
  replace f6 := blk_alloc (o' := .cells #[] 3) f6
  replace bW : Below w.heap.size w (w1.alloc (.cells #[] 3)) := bW.alloc bW.size _
  generalize w1.alloc (.cells #[] 3) = w2 at *
  generalize w1.heap.size = b7 at *
  refine (zero_ref u m Y _ (HB.out.stays bW)).mono ?_
  rintro e w3 ⟨rfl, rfl⟩
  rw [hY0]
  go_wp2_with fail
  go_loopw [7, 8, 9] (fun l i _ wr => ∃ (k nl b off cl : Nat), k ≤ n ∧ i = .int .i64 ((k : Int) - 1) ∧ l = .slice (some ⟨b, off, none⟩) nl cl ∧ nl ≤ m ∧ NumS wr (.slice (some ⟨b, off, none⟩) nl cl) nl (X / 256 ^ k % Y) ∧ wr.heap[w.heap.size]? = some (.cells (qall n (X / Y) k) 3) ∧ Below w.heap.size w wr) (fun _ i _ _ => (intOf i + 1).toNat)
  case atStart =>
    refine ⟨n, 0, b7, 0, 0, Nat.le_refl _, rfl, rfl, Nat.zero_le _, ?_, f6, bW⟩
    rw [Nat.div_eq_of_lt HX.out, Nat.zero_mod]
    exact l7
  case round =>
    clear f6 bW sW l7
    obtain ⟨k, nl, b, off, cl, hk, rfl, rfl, hnl, l7, f6, bW⟩ := hrel
    obtain ⟨wo, rfl⟩ : ∃ wo : World, wo = wr := ⟨_, rfl⟩
    cases k with
    | zero =>
      have ez : X / 256 ^ 0 % Y = X % Y := by rw [Nat.pow_zero, Nat.div_one]
      rw [ez] at l7
      rw [qall_full] at f6
      clear ez
      go_wp2_with fail
      go_ret2
      exact ⟨_, _, nl, rfl, dL_num f6 HQ.out (by omega), l7, bW⟩
    | succ j =>
      rw [show (((j + 1 : Nat) : Int) - 1) = (j : Int) by omega]
      have hj : j < n := by omega
      obtain ⟨Q1, Q2, Q3⟩ := quo_digit (X := X) (Y := Y) (j := j) HP.out
      have hd := dig_lt X j
      have hsz : w.heap.size + 1 ≤ wo.heap.size := (Array.getElem?_eq_some_iff.1 f6).1
      obtain ⟨⟨A1, c1, e1, _, hs1⟩, _, _⟩ := HA.out.stays bW
      cases e1
      obtain ⟨ba, oa, rfl, hbl, hc⟩ := hs1 (by omega)
      have k1 := hc j hj
      clear hs1 hc
      obtain ⟨⟨A2, c2, e2, hcl, hs2⟩, hLlt, _⟩ := l7
      cases e2
      rw [qarr_zero] at f6
      generalize X / 256 ^ (j + 1) % Y = L at *
      generalize hR0 : 256 * L + dig X j = R0 at *
      have HR0 := Lib.hid hR0
      have HL := Lib.hid hLlt
      have H1 := Lib.hid Q1
      have H2 := Lib.hid Q2
      have H3 := Lib.hid Q3
      have H4 := Lib.hid hs2
      have F6 := Lib.hid f6
      clear hR0 hLlt Q1 Q2 Q3 hs2 f6
      go_upto_region 9 with fail
      have hown := own_single wo (.int .i64 ((dig X j : Nat) : Int)) (base := w.heap.size + 1) hsz
      have hnews : ∀ i x, (dg L nl)[i]? = some x → (wo.alloc (.cells #[.int .i64 ((dig X j : Nat) : Int)] 3)).cell? ((⟨b, off, none⟩ : Addr).add i) = some x := fun i x hx => by
        have hin : i < nl := by
          apply Classical.byContradiction
          intro hn
          rw [List.getElem?_eq_none (by rw [dg_length]; omega)] at hx
          cases hx
        obtain ⟨b', o', e, hb', hcs⟩ := H4.out (by omega)
        cases e
        rw [dg_get hin] at hx
        cases hx
        have hadd : (⟨b, off, none⟩ : Addr).add i = ⟨b, off + i, none⟩ := by unfold Addr.add; split <;> simp_all
        rw [hadd, World.cell?_alloc_past _ _ _ hb']
        exact hcs i hin
      have HNW := Lib.hid hnews
      clear hnews
      go_upto_block 2 with (at_builtin; refine wpList_append_own _ rfl _ _ 45 rfl (w.heap.size + 1) 3 i0 (.int .i64 0) 1 8 Try.underlying45 hi hz0 hz1 hz2 rfl (by decide) _ _ _ rfl hown ⟨b, off, none⟩ nl cl (dg L nl) rfl ?c0 ?c1 ?c2 ?c3 ?c4 ?c5 ?_)
      case c0 => rw [dg_length, Nat.mul_one]
      case c1 => exact HNW.out
      case c2 => exact dg_one L nl
      case c3 => unfold maxLen; omega
      case c4 => omega
      case c5 => simp; omega
      intro v' w3 hown' hgrow _
      rw [show Value.int .i64 ((dig X j : Nat) : Int) :: dg L nl = [Value.int .i64 ((dig X j : Nat) : Int)] ++ dg L nl from rfl, dg_cons hd, HR0.out] at hown'
      have l7 := NumS.of_owns hown' (num_up_lt HR0.out HL.out hd) (by omega)
      have a7 : ∀ b, v'.ownBlock = some b → b ≠ w.heap.size := fun b hb => by have := (hown'.lt b hb).1; omega
      have f6 : w3.heap[w.heap.size]? = some (.cells (qarr n (X / Y) j 0) 3) := by
        rw [hgrow.block w.heap.size (by simp; omega) (fun e => by have : w.heap.size = wo.heap.size := Option.some.inj e; omega)]
        exact blk_alloc F6.out
      replace bW : Below w.heap.size w w3 := (bW.alloc (o := .cells #[.int .i64 ((dig X j : Nat) : Int)] 3) (by omega)).grown hgrow (by simp; omega) (fun g hg => by have : wo.heap.size = g := Option.some.inj hg; omega)
      clear hown hown' hgrow F6 HNW H4 HL HR0 k1 hbl
      go_wp2_with fail
      go_loopg [7] R0 (fun gk l wr => ∃ t : Nat, Hid (gk + t * Y = R0) ∧ Hid (∀ b, l.ownBlock = some b → b ≠ w.heap.size) ∧ NumS wr l (1 + nl) gk ∧ wr.heap[w.heap.size]? = some (.cells (qarr n (X / Y) j t) 3) ∧ Below w.heap.size w wr)
      case atStart => exact ⟨0, Lib.hid (by rw [Nat.zero_mul, Nat.add_zero]), Lib.hid a7, l7, f6, bW⟩
      case round =>
        clear l7 f6 bW a7
        obtain ⟨t, ht, a7, l7, f6, bW⟩ := hrel
        have ht2 : t < 256 := Nat.lt_of_mul_lt_mul_right (a := Y) (by have := ht.out; have := H3.out; omega)
        go_wp2_with fail
        refine (less_ref _ u _ m gk Y _ l7 (HB.out.stays bW)).mono ?_
        rintro e w4 ⟨rfl, rfl⟩
        by_cases hlt : gk < Y
        · rw [decide_eq_true hlt]
          have E1 : Hid (dig (X / Y) j = t ∧ X / 256 ^ j % Y = gk) := Lib.hid (by
            rw [← H1.out, ← H2.out, ← ht.out, Nat.add_mul_div_right _ _ HP.out, Nat.div_eq_of_lt hlt, Nat.zero_add, Nat.add_mul_mod_self_right, Nat.mod_eq_of_lt hlt]
            exact ⟨rfl, rfl⟩)
          have HLT := Lib.hid hlt
          clear hlt ht H1 H2 H3
          obtain ⟨⟨A3, c3, rfl, hc3, hs3⟩, hl3, _⟩ := l7
          obtain ⟨b3, o3, rfl, hb3, hcs⟩ := hs3 (by omega)
          have HCS := Lib.hid hcs
          have HL3 := Lib.hid hl3
          have F6 : Hid (wr.heap[w.heap.size]? = some (.cells (qall n (X / Y) j) 3)) := Lib.hid (by rw [← qarr_end, E1.out.1]; exact f6)
          have HEND : Hid (∀ q cq, q ≤ cq → q ≤ 1 + nl → gk < 256 ^ q → NumS wr (.slice (some ⟨b3, o3, none⟩) q cq) q (X / 256 ^ j % Y)) := Lib.hid fun q cq h1 h2 h3 => by
            rw [E1.out.2]
            exact ⟨⟨_, _, rfl, h1, fun _ => ⟨b3, o3, rfl, hb3, fun i hi => hcs i (by omega)⟩⟩, h3, by omega⟩
          clear hs3 hcs hl3 f6 a7
          obtain ⟨R, rfl⟩ : ∃ R, R = gk := ⟨_, rfl⟩
          go_wp2_with fail
          go_loopg [7] (1 + nl) (fun gk l wx => ∃ cq : Nat, l = .slice (some ⟨b3, o3, none⟩) gk cq ∧ gk ≤ cq ∧ gk ≤ 1 + nl ∧ Hid (R < 256 ^ gk) ∧ wr = wx)
          case atStart => exact ⟨c3, rfl, hc3, Nat.le_refl _, HL3, rfl⟩
          case round =>
            obtain ⟨cq, rfl, hq1, hq2, hq3, rfl⟩ := hrel
            cases gk with
            | zero =>
              go_wp2_with fail
              exact ⟨⟨j, 0, b3, o3, cq, by omega, rfl, rfl, by omega, HEND.out 0 cq hq1 hq2 hq3.out, F6.out, bW⟩, by simp only [intOf]; omega⟩
            | succ p =>
              have cp := HCS.out p (by omega)
              have dp := dig_lt R p
              by_cases hz : dig R p = 0
              · have HZ := Lib.hid (top_zero hq3.out hz)
                rw [hz] at cp
                clear hz
                go_wp2_with fail
                go_roundg p
                case measure => omega
                case rel => exact ⟨cq, rfl, by omega, by omega, HZ, rfl⟩
              · have hb1 : (((dig R p : Nat) : Int) == 0) = false := by rw [beq_eq_false_iff_ne]; omega
                have HZ := Lib.hid (top_some hz HLT.out HY.out)
                clear hz
                go_wp2_with fail
                exact ⟨⟨j, p + 1, b3, o3, cq, by omega, rfl, rfl, HZ.out, HEND.out (p + 1) cq hq1 hq2 hq3.out, F6.out, bW⟩, by simp only [intOf]; omega⟩
        · rw [decide_eq_false hlt]
          have hZ : gk - Y + Y = gk := by omega
          have HT := Lib.hid ht
          have hnew : gk - Y + (t + 1) * Y = R0 := by rw [Nat.add_mul, Nat.one_mul]; have := ht.out; omega
          have HN := Lib.hid hnew
          have HLT := Lib.hid hlt
          have HZ := Lib.hid hZ
          clear hlt ht hnew hZ
          go_wp2_with fail
          refine (minus_ref _ u _ m gk Y (gk - Y) _ l7 (HB.out.stays bW) HZ.out).mono ?_
          rintro e w5 ⟨v5, rfl, l7', a5, b1⟩
          have a7' : ∀ b, v5.ownBlock = some b → b ≠ w.heap.size := fun b hb => by have := a5 b hb; have := (Array.getElem?_eq_some_iff.1 f6).1; omega
          have A7 := Lib.hid a7'
          clear a5 a7 a7'
          replace f6 := Below.stays b1 f6
          replace bW := bW.trans (b1.mono bW.size)
          clear b1 l7
          have c6 := blk_cell f6 (qarr_get n (X / Y) j t hj)
          have z6 := blk_frozen (j := j) f6
          have F6 := Lib.hid f6
          clear f6
          go_wp2_with fail
          go_roundg (gk - Y)
          case measure => have := HLT.out; have := HP.out; omega
          case rel =>
            refine ⟨t + 1, HN, A7, l7'.apart A7.out, ?_, bW.setCell (by simp) _⟩
            rw [← qarr_step n (X / Y) j t hj]
            exact blk_set F6.out _
end Go.Proofs.Ytlobchkbkdjccaa
