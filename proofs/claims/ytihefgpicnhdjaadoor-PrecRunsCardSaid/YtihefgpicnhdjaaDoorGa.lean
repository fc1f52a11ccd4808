/- What the document's Div of numbers of any length does, with the length of what is left; what is left of a product. -/
import Derived.Test.YtihefgpicnhdjaaDoorG7
import Derived.Test.YtihefgpicnhdjaaDoorG9
import Derived.Deep.RegionHeld3
namespace Go.Proofs.YtihefgpicnhdjaaDoor
open Go.RowKit SmWord
set_option maxRecDepth 100000

/-- What returns a quotient, and what is left, that has no more digits than m. -/
def RetDm (n m Q R : Nat) (w : World) (e : Ending) (w' : World) : Prop := ∃ v u k, e = .returned (.tuple #[v, u]) ∧ k ≤ m ∧ NumS w' v n Q ∧ NumS w' u k R ∧ Below w.heap.size w w'
set_option maxHeartbeats 4000000 in
theorem rdiv_posm (v u : Value) (n m X Y : Nat) (w : World) (h : NumS w v n X) (g : NumS w u m Y) (hY : 0 < Y) (hsm : n ≤ 400 ∧ m ≤ 400) : Calls Tryd.prog 42 #[v, u] w (RetDm n m (X / Y) (X % Y) w) := by
  obtain ⟨i0, hi, hz0, hz1, hz2⟩ := info_parts Tryd.info3
  have HA := Lib.hid h
  have HB := Lib.hid g
  have HY := Lib.hid g.lt
  have HP := Lib.hid hY
  have hXn := h.lt
  have HX := Lib.hid hXn
  have HQ : Hid (X / Y < 256 ^ n) := Lib.hid (Nat.lt_of_le_of_lt (Nat.div_le_self _ _) hXn)
  obtain ⟨⟨A, c, rfl, hnc, _⟩, hl, hm⟩ := h
  have hY0 : decide (Y = 0) = false := decide_eq_false (by omega)
  have hn400 : n ≤ 400 := hsm.1
  have hm400 : m ≤ 400 := hsm.2
  clear g hl hY hXn hsm hm
  go_enter Tryd.func42, Tryd.ntmps42
  go_upto_region 2 with (at_make; refine wpList_make_full _ rfl _ _ 71 rfl w.heap.size 3 i0 (.int .i64 0) 1 Tryd.underlying71 hi hz0 hz1 _ _ _ _ n rfl rfl rfl rfl ?b2 ?b3 ?b4 ?_)
  case b2 => rw [hz2]; omega
  case b3 => unfold maxLen; omega
  case b4 => exact Nat.le_refl _
  intro w1 hown hgrow
  have f6 := made_row hown
  have bW : Below w.heap.size w w1 := (Below.refl _ _).grown hgrow (Nat.le_refl _) (fun k hk => by cases hk)
  have sW : w.heap.size + 1 ≤ w1.heap.size := (Array.getElem?_eq_some_iff.1 f6).1
  clear hown hgrow
  rw [qall_none (Q := X / Y)] at f6
  go_wp2_with fail
  have e0 := own_empty w1 (base := 0) (Nat.zero_le _)
  have l7 := NumS.of_owns (X := 0) e0 (by decide) (by omega)
  clear e0
  replace f6 := blk_alloc (o' := .cells #[] 3) f6
  replace bW : Below w.heap.size w (w1.alloc (.cells #[] 3)) := bW.alloc bW.size _
  generalize w1.alloc (.cells #[] 3) = w2 at *
  generalize w1.heap.size = b7 at *
  refine (zero_ref u m Y _ (HB.out.stays bW)).mono ?_
  rintro e w3 ⟨rfl, rfl⟩
  rw [hY0]
  go_wp2_with fail
  go_loopw [7, 8, 9] (fun l i _ wr => ∃ (k nl b off cl : Nat), k ≤ n ∧ i = .int .i64 ((k : Int) - 1) ∧ l = .slice (some ⟨b, off, none⟩) nl cl ∧ nl ≤ m ∧ NumS wr (.slice (some ⟨b, off, none⟩) nl cl) nl (X / 256 ^ k % Y) ∧ wr.heap[w.heap.size]? = some (.cells (qall n (X / Y) k) 3) ∧ Below w.heap.size w wr) (fun _ i _ _ => (intOf i + 1).toNat)
  case atStart =>
    refine ⟨n, 0, b7, 0, 0, Nat.le_refl _, rfl, rfl, Nat.zero_le _, ?_, f6, bW⟩
    rw [Nat.div_eq_of_lt HX.out, Nat.zero_mod]
    exact l7
  case round =>
    clear f6 bW sW l7
    obtain ⟨k, nl, b, off, cl, hk, rfl, rfl, hnl, l7, f6, bW⟩ := hrel
    obtain ⟨wo, rfl⟩ : ∃ wo : World, wo = wr := ⟨_, rfl⟩
    cases k with
    | zero =>
      have ez : X / 256 ^ 0 % Y = X % Y := by rw [Nat.pow_zero, Nat.div_one]
      rw [ez] at l7
      rw [qall_full] at f6
      clear ez
      go_wp2_with fail
      go_ret2
      exact ⟨_, _, nl, rfl, hnl, dL_num f6 HQ.out (by omega), l7, bW⟩
    | succ j =>
      rw [show (((j + 1 : Nat) : Int) - 1) = (j : Int) by omega]
      have hj : j < n := by omega
      obtain ⟨Q1, Q2, Q3⟩ := quo_digit (X := X) (Y := Y) (j := j) HP.out
      have hd := dig_lt X j
      have hsz : w.heap.size + 1 ≤ wo.heap.size := (Array.getElem?_eq_some_iff.1 f6).1
      obtain ⟨⟨A1, c1, e1, _, hs1⟩, _, _⟩ := HA.out.stays bW
      cases e1
      obtain ⟨ba, oa, rfl, hbl, hc⟩ := hs1 (by omega)
      have k1 := hc j hj
      clear hs1 hc
      obtain ⟨⟨A2, c2, e2, hcl, hs2⟩, hLlt, _⟩ := l7
      cases e2
      rw [qarr_zero] at f6
      generalize X / 256 ^ (j + 1) % Y = L at *
      generalize hR0 : 256 * L + dig X j = R0 at *
      have HR0 := Lib.hid hR0
      have HL := Lib.hid hLlt
      have H1 := Lib.hid Q1
      have H2 := Lib.hid Q2
      have H3 := Lib.hid Q3
      have H4 := Lib.hid hs2
      have F6 := Lib.hid f6
      clear hR0 hLlt Q1 Q2 Q3 hs2 f6
      go_upto_region 9 with fail
      have hown := own_single wo (.int .i64 ((dig X j : Nat) : Int)) (base := w.heap.size + 1) hsz
      have hnews : ∀ i x, (dg L nl)[i]? = some x → (wo.alloc (.cells #[.int .i64 ((dig X j : Nat) : Int)] 3)).cell? ((⟨b, off, none⟩ : Addr).add i) = some x := fun i x hx => by
        have hin : i < nl := by
          apply Classical.byContradiction
          intro hn
          rw [List.getElem?_eq_none (by rw [dg_length]; omega)] at hx
          cases hx
        obtain ⟨b', o', e, hb', hcs⟩ := H4.out (by omega)
        cases e
        rw [dg_get hin] at hx
        cases hx
        have hadd : (⟨b, off, none⟩ : Addr).add i = ⟨b, off + i, none⟩ := by unfold Addr.add; split <;> simp_all
        rw [hadd, World.cell?_alloc_past _ _ _ hb']
        exact hcs i hin
      have HNW := Lib.hid hnews
      clear hnews
      go_upto_block 2 with (at_builtin; refine wpList_append_own _ rfl _ _ 71 rfl (w.heap.size + 1) 3 i0 (.int .i64 0) 1 8 Tryd.underlying71 hi hz0 hz1 hz2 rfl (by decide) _ _ _ rfl hown ⟨b, off, none⟩ nl cl (dg L nl) rfl ?c0 ?c1 ?c2 ?c3 ?c4 ?c5 ?_)
      case c0 => rw [dg_length, Nat.mul_one]
      case c1 => exact HNW.out
      case c2 => exact dg_one L nl
      case c3 => unfold maxLen; omega
      case c4 => omega
      case c5 => simp; omega
      intro v' w3 hown' hgrow _
      rw [show Value.int .i64 ((dig X j : Nat) : Int) :: dg L nl = [Value.int .i64 ((dig X j : Nat) : Int)] ++ dg L nl from rfl, dg_cons hd, HR0.out] at hown'
      have l7 := NumS.of_owns hown' (num_up_lt HR0.out HL.out hd) (by omega)
      have a7 : ∀ b, v'.ownBlock = some b → b ≠ w.heap.size := fun b hb => by have := (hown'.lt b hb).1; omega
      have f6 : w3.heap[w.heap.size]? = some (.cells (qarr n (X / Y) j 0) 3) := by
        rw [hgrow.block w.heap.size (by simp; omega) (fun e => by have : w.heap.size = wo.heap.size := Option.some.inj e; omega)]
        exact blk_alloc F6.out
      replace bW : Below w.heap.size w w3 := (bW.alloc (o := .cells #[.int .i64 ((dig X j : Nat) : Int)] 3) (by omega)).grown hgrow (by simp; omega) (fun g hg => by have : wo.heap.size = g := Option.some.inj hg; omega)
      clear hown hown' hgrow F6 HNW H4 HL HR0 k1 hbl
      go_wp2_with fail
      go_loopg [7] R0 (fun gk l wr => ∃ t : Nat, Hid (gk + t * Y = R0) ∧ Hid (∀ b, l.ownBlock = some b → b ≠ w.heap.size) ∧ NumS wr l (1 + nl) gk ∧ wr.heap[w.heap.size]? = some (.cells (qarr n (X / Y) j t) 3) ∧ Below w.heap.size w wr)
      case atStart => exact ⟨0, Lib.hid (by rw [Nat.zero_mul, Nat.add_zero]), Lib.hid a7, l7, f6, bW⟩
      case round =>
        clear l7 f6 bW a7
        obtain ⟨t, ht, a7, l7, f6, bW⟩ := hrel
        have ht2 : t < 256 := Nat.lt_of_mul_lt_mul_right (a := Y) (by have := ht.out; have := H3.out; omega)
        go_wp2_with fail
        refine (less_ref _ u _ m gk Y _ l7 (HB.out.stays bW)).mono ?_
        rintro e w4 ⟨rfl, rfl⟩
        by_cases hlt : gk < Y
        · rw [decide_eq_true hlt]
          have E1 : Hid (dig (X / Y) j = t ∧ X / 256 ^ j % Y = gk) := Lib.hid (by
            rw [← H1.out, ← H2.out, ← ht.out, Nat.add_mul_div_right _ _ HP.out, Nat.div_eq_of_lt hlt, Nat.zero_add, Nat.add_mul_mod_self_right, Nat.mod_eq_of_lt hlt]
            exact ⟨rfl, rfl⟩)
          have HLT := Lib.hid hlt
          clear hlt ht H1 H2 H3
          obtain ⟨⟨A3, c3, rfl, hc3, hs3⟩, hl3, _⟩ := l7
          obtain ⟨b3, o3, rfl, hb3, hcs⟩ := hs3 (by omega)
          have HCS := Lib.hid hcs
          have HL3 := Lib.hid hl3
          have F6 : Hid (wr.heap[w.heap.size]? = some (.cells (qall n (X / Y) j) 3)) := Lib.hid (by rw [← qarr_end, E1.out.1]; exact f6)
          have HEND : Hid (∀ q cq, q ≤ cq → q ≤ 1 + nl → gk < 256 ^ q → NumS wr (.slice (some ⟨b3, o3, none⟩) q cq) q (X / 256 ^ j % Y)) := Lib.hid fun q cq h1 h2 h3 => by
            rw [E1.out.2]
            exact ⟨⟨_, _, rfl, h1, fun _ => ⟨b3, o3, rfl, hb3, fun i hi => hcs i (by omega)⟩⟩, h3, by omega⟩
          clear hs3 hcs hl3 f6 a7
          obtain ⟨R, rfl⟩ : ∃ R, R = gk := ⟨_, rfl⟩
          go_wp2_with fail
          go_loopg [7] (1 + nl) (fun gk l wx => ∃ cq : Nat, l = .slice (some ⟨b3, o3, none⟩) gk cq ∧ gk ≤ cq ∧ gk ≤ 1 + nl ∧ Hid (R < 256 ^ gk) ∧ wr = wx)
          case atStart => exact ⟨c3, rfl, hc3, Nat.le_refl _, HL3, rfl⟩
          case round =>
            obtain ⟨cq, rfl, hq1, hq2, hq3, rfl⟩ := hrel
            cases gk with
            | zero =>
              go_wp2_with fail
              exact ⟨⟨j, 0, b3, o3, cq, by omega, rfl, rfl, by omega, HEND.out 0 cq hq1 hq2 hq3.out, F6.out, bW⟩, by simp only [intOf]; omega⟩
            | succ p =>
              have cp := HCS.out p (by omega)
              have dp := dig_lt R p
              by_cases hz : dig R p = 0
              · have HZ := Lib.hid (top_zero hq3.out hz)
                rw [hz] at cp
                clear hz
                go_wp2_with fail
                go_roundg p
                case measure => omega
                case rel => exact ⟨cq, rfl, by omega, by omega, HZ, rfl⟩
              · have hb1 : (((dig R p : Nat) : Int) == 0) = false := by rw [beq_eq_false_iff_ne]; omega
                have HZ := Lib.hid (top_some hz HLT.out HY.out)
                clear hz
                go_wp2_with fail
                exact ⟨⟨j, p + 1, b3, o3, cq, by omega, rfl, rfl, HZ.out, HEND.out (p + 1) cq hq1 hq2 hq3.out, F6.out, bW⟩, by simp only [intOf]; omega⟩
        · rw [decide_eq_false hlt]
          have hZ : gk - Y + Y = gk := by omega
          have HT := Lib.hid ht
          have hnew : gk - Y + (t + 1) * Y = R0 := by rw [Nat.add_mul, Nat.one_mul]; have := ht.out; omega
          have HN := Lib.hid hnew
          have HLT := Lib.hid hlt
          have HZ := Lib.hid hZ
          clear hlt ht hnew hZ
          go_wp2_with fail
          refine (minus_ref _ u _ m gk Y (gk - Y) _ l7 (HB.out.stays bW) HZ.out).mono ?_
          rintro e w5 ⟨v5, rfl, l7', a5, b1⟩
          have a7' : ∀ b, v5.ownBlock = some b → b ≠ w.heap.size := fun b hb => by have := a5 b hb; have := (Array.getElem?_eq_some_iff.1 f6).1; omega
          have A7 := Lib.hid a7'
          clear a5 a7 a7'
          replace f6 := Below.stays b1 f6
          replace bW := bW.trans (b1.mono bW.size)
          clear b1 l7
          have c6 := blk_cell f6 (qarr_get n (X / Y) j t hj)
          have z6 := blk_frozen (j := j) f6
          have F6 := Lib.hid f6
          clear f6
          go_wp2_with fail
          go_roundg (gk - Y)
          case measure => have := HLT.out; have := HP.out; omega
          case rel =>
            refine ⟨t + 1, HN, A7, l7'.apart A7.out, ?_, bW.setCell (by simp) _⟩
            rw [← qarr_step n (X / Y) j t hj]
            exact blk_set F6.out _

/-- What returns a number of at most m digits. -/
def RetL (m X : Nat) (w : World) (e : Ending) (w' : World) : Prop := ∃ v k, e = .returned v ∧ k ≤ m ∧ NumS w' v k X ∧ Below w.heap.size w w'
set_option maxHeartbeats 1000000 in
theorem mmul_ref (v u z : Value) (n m l X Y Z : Nat) (w : World) (h : NumS w v n X) (g : NumS w u m Y) (f : NumS w z l Z) (hZ : 0 < Z) (hsm : n ≤ 150 ∧ m ≤ 150 ∧ l ≤ 150) : Calls Tryd.prog 52 #[v, u, z] w (RetL l (X * Y % Z) w) := by
  obtain ⟨h1, h2, h3⟩ := hsm
  have HT := Lib.hid (times_ref v u n m X Y w h g ⟨by omega, by omega⟩)
  clear h g
  go_enter Tryd.func52, Tryd.ntmps52
  go_wp2_with fail
  refine (HT.out).mono ?_
  rintro _ w1 ⟨v1, rfl, g1, b1⟩
  have HD := Lib.hid (rdiv_posm v1 z (n + m + 1) l (X * Y) Z w1 g1 (f.stays b1) hZ ⟨by omega, by omega⟩)
  go_wp2_with fail
  refine (HD.out).mono ?_
  rintro _ w2 ⟨v2, u2, k, rfl, hk, _, g2, b2⟩
  go_wp2_with fail
  go_ret
  exact ⟨u2, k, rfl, hk, g2, b1.trans (b2.mono b1.size)⟩
end Go.Proofs.YtihefgpicnhdjaaDoor
/- What the document's Pow does. -/
namespace Go.Proofs.YtihefgpicnhdjaaDoor
open Go.RowKit SmWord
set_option maxRecDepth 100000

set_option maxHeartbeats 4000000 in
theorem rpow_core (n1 n2 n3 c1 c2 c3 X R : Nat) (P S bit : Nat → Nat) (A1 A2 A3 : Option Addr) (f1 f2 f3 : Nat → Nat) (w : World) (h1 : n1 ≤ 64) (h2 : n2 ≤ 64) (h3 : n3 ≤ 64) (s1 : Sl w A1 n1 f1) (s2 : Sl w A2 n2 f2) (s3 : Sl w A3 n3 f3)
   (hX : X = bvl f3 n3) (h0 : 0 < X) (hP0 : Hid (1 % X = P 0)) (hS0 : Hid (bvl f1 n1 % X = S 0)) (hS : Hid (∀ t, S t * S t % X = S (t + 1))) (hP1 : Hid (∀ t, bit t = 1 → P t * S t % X = P (t + 1))) (hPn : Hid (∀ t, bit t = 0 → P t = P (t + 1)))
   (hbit : Hid (∀ j k, j < n2 → k < 8 → f2 (n2 - 1 - j) / 2 ^ k % 2 = bit (8 * j + k))) (hR : Hid (P (8 * n2) = R)) :
    Calls Tryd.prog 25 #[.slice A1 n1 c1, .slice A2 n2 c2, .slice A3 n3 c3] w (RetB n3 (fun i => dig R (n3 - 1 - i)) w) := by
  have HO := Lib.hid (mof_ref A3 n3 c3 f3 w (by omega) s3)
  rw [← hX] at HO
  go_enter Tryd.func25, Tryd.ntmps25
  go_wp2_with fail
  refine (HO.out).mono ?_
  rintro _ w1 ⟨v1, rfl, g1, b1⟩
  have HZ := Lib.hid (zero_ref v1 n3 X w1 g1)
  rw [show decide (X = 0) = false from decide_eq_false (by omega)] at HZ
  have HX := Lib.hid hX
  have H0 := Lib.hid h0
  clear hX h0 HO
  go_wp2_with fail
  refine (HZ.out).mono ?_
  rintro _ w2 ⟨rfl, rfl⟩
  have HO := Lib.hid (mof_ref A1 n1 c1 f1 w1 (by omega) (s1.below b1))
  clear HZ
  go_wp2_with fail
  refine (HO.out).mono ?_
  rintro _ w2 ⟨v2, rfl, g2, b2⟩
  replace g1 := g1.stays b2
  replace b1 := b1.trans (b2.mono b1.size)
  have HD := Lib.hid (rdiv_posm v2 v1 n1 n3 _ X w2 g2 g1 H0.out ⟨by omega, by omega⟩)
  clear HO b2 g2
  go_wp2_with fail
  refine (HD.out).mono ?_
  rintro _ w3 ⟨v3, u3, k3, rfl, hk3, _, g3, b2⟩
  replace g1 := g1.stays b2
  replace b1 := b1.trans (b2.mono b1.size)
  clear HD b2
  go_wp2_with fail
  have b4 : Below w3.heap.size w3 (w3.alloc (.cells #[Value.int .i64 1] 3)) := (Below.refl _ _).alloc (Nat.le_refl _) _
  have g4 : NumS (w3.alloc (.cells #[Value.int .i64 1] 3)) (.slice (some ⟨w3.heap.size, 0, none⟩) 1 1) 1 1 := NumS.of_owns (base := 0) (own_single w3 (.int .i64 1) (Nat.zero_le _)) (by decide) (by decide)
  replace g1 := g1.stays b4
  replace g3 := g3.stays b4
  replace b1 := b1.trans (b4.mono b1.size)
  clear b4
  generalize w3.alloc (.cells #[Value.int .i64 1] 3) = w4 at *
  have HD := Lib.hid (rdiv_posm _ v1 1 n3 1 X w4 g4 g1 H0.out ⟨by omega, by omega⟩)
  refine (HD.out).mono ?_
  rintro _ w5 ⟨v5, u5, k5, rfl, hk5, _, g5, b2⟩
  replace g1 := g1.stays b2
  replace g3 := g3.stays b2
  replace b1 := b1.trans (b2.mono b1.size)
  clear HD b2 g4
  rw [hP0.out] at g5
  rw [hS0.out] at g3
  clear s1 s3
  have HS2 := Lib.hid (s2.below b1)
  have HV := Lib.hid g1
  have BW := Lib.hid b1
  clear s2 g1 b1 hP0 hS0
  go_wp2_with fail
  go_loopw [9, 11, 12] (fun vb vo i wr => ∃ j kb ko : Nat, j ≤ n2 ∧ i = .int .i64 (((n2 - j : Nat) : Int) - 1) ∧ kb ≤ n3 ∧ ko ≤ n3 ∧ NumS wr vb kb (S (8 * j)) ∧ NumS wr vo ko (P (8 * j)) ∧ Below w5.heap.size w5 wr) (fun _ _ i _ => (intOf i + 1).toNat)
  case atStart => exact ⟨0, k3, k5, Nat.zero_le _, rfl, hk3, hk5, g3, g5, Below.refl _ _⟩
  case round =>
    clear g3 g5 hk3 hk5
    obtain ⟨j, kb, ko, hj, rfl, hkb, hko, gb, go, bW⟩ := hrel
    by_cases hlt : j < n2
    · have hSl := HS2.out.below bW
      obtain ⟨bb, off, rfl, hbl, hc⟩ := hSl.cells (by omega)
      have c1 := hc (n2 - 1 - j) (by omega)
      have hf := HS2.out.small (n2 - 1 - j) (by omega)
      have HBT : Hid (∀ k, k < 8 → f2 (n2 - 1 - j) / 2 ^ k % 2 = bit (8 * j + k)) := Lib.hid fun k hk => hbit.out j k hlt hk
      have e1 : ((n2 - j : Nat) : Int) - 1 = ((n2 - 1 - j : Nat) : Int) := by omega
      have i1 : n2 - 1 - j < n2 := by omega
      have e3 : ((n2 - 1 - j : Nat) : Int) - 1 = ((n2 - (j + 1) : Nat) : Int) - 1 := by omega
      have HE := Lib.hid e3
      have HJ : Hid (n2 - 1 - j + 1 = n2 - j) := Lib.hid (by omega)
      rw [e1]
      have HGB := Lib.hid gb
      have HGO := Lib.hid go
      have HBW := Lib.hid bW
      clear hSl hc e1 e3 gb go bW hbl
      generalize f2 (n2 - 1 - j) = x at *
      generalize n2 - 1 - j = ix at *
      go_wp2_with fail
      go_loopw [9, 11, 13, 14] (fun vb vo c i wr => ∃ t kb ko : Nat, t ≤ 8 ∧ i = .int .i64 (t : Int) ∧ c = .int .u8 ((x / 2 ^ t : Nat) : Int) ∧ kb ≤ n3 ∧ ko ≤ n3 ∧ Hid (NumS wr vb kb (S (8 * j + t))) ∧ Hid (NumS wr vo ko (P (8 * j + t))) ∧ Hid (Below w5.heap.size w5 wr)) (fun _ _ _ i _ => 8 - (intOf i).toNat)
      case atStart => exact ⟨0, kb, ko, by omega, rfl, by rw [Nat.pow_zero, Nat.div_one], hkb, hko, HGB, HGO, HBW⟩
      case round =>
        clear HGB HGO HBW c1 hkb hko
        obtain ⟨t, kb, ko, ht, rfl, rfl, hkb, hko, HGB, HGO, HBW⟩ := hrel
        by_cases ht8 : t < 8
        · have hy : x / 2 ^ t < 256 := Nat.lt_of_le_of_lt (Nat.div_le_self _ _) hf
          have hb := HBT.out t ht8
          have hn : x / 2 ^ t / 2 = x / 2 ^ (t + 1) := by rw [Nat.pow_succ, Nat.div_div_eq_div_mul]
          have HN := Lib.hid hn
          have HBI := Lib.hid hb
          clear hb hn
          obtain ⟨y, hyy⟩ : ∃ y, y = x / 2 ^ t := ⟨_, rfl⟩
          rw [← hyy] at hy HN HBI ⊢
          clear hyy
          obtain ⟨y2, hy2⟩ : ∃ z, z = y / 2 := ⟨_, rfl⟩
          have e4 : ((y : Nat) : Int) / 2 = (y2 : Int) := by omega
          have e5 : IntKind.u8.wrap (y2 : Int) = (y2 : Int) := by rw [IntKind.wrap_u8]; omega
          have e6 : (y : Int).tdiv 2 = (y2 : Int) := by rw [Int.tdiv_eq_ediv_of_nonneg (by omega)]; omega
          have HY2 := Lib.hid hy2
          clear hy2
          have hWS := HBW.out
          by_cases hb1 : y % 2 = 1
          · have e7 : ((y : Nat) : Int) % 2 = 1 := by omega
            have e8 : (y : Int).tmod 2 = 1 := by rw [Int.tmod_eq_emod_of_nonneg (by omega)]; omega
            have HB1 := Lib.hid hb1
            have HM1 := Lib.hid (mmul_ref u11 u9 v1 ko kb n3 _ _ X wr HGO.out HGB.out (HV.out.stays hWS) H0.out ⟨by omega, by omega, by omega⟩)
            rw [hP1.out _ (by rw [← HBI.out]; exact hb1)] at HM1
            clear hb1 hWS
            go_wp2_with fail
            refine (HM1.out).mono ?_
            rintro _ w6 ⟨v6, k6, rfl, hk6, g6, b6⟩
            have hWS := HBW.out.trans (b6.mono HBW.out.size)
            have HM2 := Lib.hid (mmul_ref u9 u9 v1 kb kb n3 _ _ X w6 (HGB.out.stays b6) (HGB.out.stays b6) (HV.out.stays hWS) H0.out ⟨by omega, by omega, by omega⟩)
            rw [hS.out] at HM2
            have HW6 := Lib.hid hWS
            have HG6 := Lib.hid g6
            clear hWS b6 g6 HM1 HGO HGB
            go_wp2_with fail
            refine (HM2.out).mono ?_
            rintro _ w7 ⟨v7, k7, rfl, hk7, g7, b7⟩
            have HG7 := Lib.hid g7
            have HG6' := Lib.hid (HG6.out.stays b7)
            have HW7 := Lib.hid (HW6.out.trans (b7.mono HW6.out.size))
            clear g7 b7 HG6 HW6 HM2
            go_wp2_with fail
            exact ⟨⟨t + 1, k7, k6, by omega, by go_num, congrArg (fun z : Nat => Value.int .u8 (z : Int)) (by rw [HY2.out, HN.out]), hk7, hk6, HG7, HG6', HW7⟩, by simp only [intOf]; omega⟩
          · have hb0 : y % 2 = 0 := by omega
            have e7 : ((y : Nat) : Int) % 2 = 0 := by omega
            have e8 : (y : Int).tmod 2 = 0 := by rw [Int.tmod_eq_emod_of_nonneg (by omega)]; omega
            have HM2 := Lib.hid (mmul_ref u9 u9 v1 kb kb n3 _ _ X wr HGB.out HGB.out (HV.out.stays hWS) H0.out ⟨by omega, by omega, by omega⟩)
            rw [hS.out] at HM2
            have HGO' : Hid (NumS wr u11 ko (P (8 * j + (t + 1)))) := Lib.hid (by
              have := HGO.out
              rw [hPn.out _ (by rw [← HBI.out]; exact hb0)] at this
              exact this)
            clear hb1 hb0 hWS HGO HGB
            go_wp2_with fail
            refine (HM2.out).mono ?_
            rintro _ w7 ⟨v7, k7, rfl, hk7, g7, b7⟩
            have HG7 := Lib.hid g7
            have HG6' := Lib.hid (HGO'.out.stays b7)
            have HW7 := Lib.hid (HBW.out.trans (b7.mono HBW.out.size))
            clear g7 b7 HM2
            go_wp2_with fail
            exact ⟨⟨t + 1, k7, ko, by omega, by go_num, congrArg (fun z : Nat => Value.int .u8 (z : Int)) (by rw [HY2.out, HN.out]), hk7, hko, HG7, HG6', HW7⟩, by simp only [intOf]; omega⟩
        · obtain rfl : t = 8 := by omega
          have gb := HGB.out
          have go := HGO.out
          rw [show 8 * j + 8 = 8 * (j + 1) by omega] at gb go
          have HGB' := Lib.hid gb
          have HGO' := Lib.hid go
          clear gb go
          go_wp2_with fail
          exact ⟨⟨j + 1, kb, ko, by omega, congrArg (Value.int .i64) HE.out, hkb, hko, HGB'.out, HGO'.out, HBW.out⟩, by simp only [intOf]; have := HJ.out; omega⟩
    · obtain rfl : j = n2 := by omega
      rw [hR.out] at go
      have HB := Lib.hid (mbytes_ref u11 ko R n3 wr go (by omega))
      have HBW := Lib.hid bW
      clear go gb bW
      rw [Nat.sub_self]
      go_wp2_with fail
      refine (HB.out).mono ?_
      rintro _ w7 ⟨A7, c7, rfl, hc7, hn7, hs7, b7⟩
      have HS7 := Lib.hid hs7
      have HW7 := Lib.hid (BW.out.trans ((HBW.out.trans (b7.mono HBW.out.size)).mono BW.out.size))
      clear hs7 b7
      go_wp2_with fail
      go_ret
      exact ⟨A7, c7, rfl, hc7, hn7, HS7.out, HW7.out⟩

set_option maxHeartbeats 1000000 in
theorem rpow_zero (n1 n2 n3 c1 c2 c3 : Nat) (A1 A2 A3 : Option Addr) (f3 : Nat → Nat) (w : World) (h3 : n3 ≤ 64) (s3 : Sl w A3 n3 f3) (hX : bvl f3 n3 = 0) :
    Calls Tryd.prog 25 #[.slice A1 n1 c1, .slice A2 n2 c2, .slice A3 n3 c3] w (RetB n3 (fun i => dig 0 (n3 - 1 - i)) w) := by
  have HO := Lib.hid (mof_ref A3 n3 c3 f3 w (by omega) s3)
  rw [hX] at HO
  have hmk := Tryd.make_bytes n3 (by omega)
  clear hX
  go_enter Tryd.func25, Tryd.ntmps25
  go_wp2_with fail
  refine (HO.out).mono ?_
  rintro _ w1 ⟨v1, rfl, g1, b1⟩
  have HZ := Lib.hid (zero_ref v1 n3 0 w1 g1)
  rw [show decide (0 = 0) = true from rfl] at HZ
  clear HO
  go_wp2_with fail
  refine (HZ.out).mono ?_
  rintro _ w2 ⟨rfl, rfl⟩
  clear HZ
  go_wp2_with fail
  go_ret
  have f0 : (w1.alloc (.cells (arr .u8 n3 fun _ => 0) 5)).heap[w1.heap.size]? = some (.cells (arr .u8 n3 fun _ => 0) 5) := heap_alloc_new _ _
  refine ⟨_, _, rfl, Nat.le_refl _, (fun e => by cases e), ⟨fun i _ => dig_lt _ _, fun _ => ⟨w1.heap.size, 0, rfl, (Array.getElem?_eq_some_iff.1 f0).1, fun i hi => ?_⟩⟩, b1.alloc b1.size _⟩
  rw [Nat.zero_add]
  have := blk_cell f0 (arr_get .u8 (fun _ => 0) hi)
  rw [this]
  simp [dig]
theorem rpow_ref (n1 n2 n3 c1 c2 c3 : Nat) (A1 A2 A3 : Option Addr) (f1 f2 f3 : Nat → Nat) (w : World) (h1 : n1 ≤ 64) (h2 : n2 ≤ 64) (h3 : n3 ≤ 64) (s1 : Sl w A1 n1 f1) (s2 : Sl w A2 n2 f2) (s3 : Sl w A3 n3 f3) :
    Calls Tryd.prog 25 #[.slice A1 n1 c1, .slice A2 n2 c2, .slice A3 n3 c3] w (RetB n3 (fun i => dig (pw (bvl f1 n1) (bvl f2 n2) (bvl f3 n3)) (n3 - 1 - i)) w) := by
  by_cases h0 : bvl f3 n3 = 0
  · rw [h0, pw_none]
    exact rpow_zero n1 n2 n3 c1 c2 c3 A1 A2 A3 f3 w h3 s3 h0
  · rw [show pw (bvl f1 n1) (bvl f2 n2) (bvl f3 n3) = bvl f1 n1 ^ bvl f2 n2 % bvl f3 n3 from if_neg h0]
    have hg : ∀ i, i < n2 → gd f2 n2 i < 256 := fun i hi => s2.small _ (by omega)
    refine rpow_core n1 n2 n3 c1 c2 c3 _ _ (fun t => bvl f1 n1 ^ (bvl f2 n2 % 2 ^ t) % bvl f3 n3) (fun t => bvl f1 n1 ^ (2 ^ t) % bvl f3 n3) (fun t => bvl f2 n2 / 2 ^ t % 2) A1 A2 A3 f1 f2 f3 w h1 h2 h3 s1 s2 s3 rfl (by omega)
      (Lib.hid ?_) (Lib.hid ?_) (Lib.hid fun t => ?_) (Lib.hid fun t ht => ?_) (Lib.hid fun t ht => ?_) (Lib.hid fun j k hj hk => ?_) (Lib.hid ?_)
    · show 1 % _ = bvl f1 n1 ^ (bvl f2 n2 % 2 ^ 0) % _
      rw [Nat.pow_zero, Nat.mod_one, Nat.pow_zero]
    · show _ = bvl f1 n1 ^ (2 ^ 0) % _
      rw [Nat.pow_zero, Nat.pow_one]
    · show (bvl f1 n1 ^ (2 ^ t) % _) * (bvl f1 n1 ^ (2 ^ t) % _) % _ = bvl f1 n1 ^ (2 ^ (t + 1)) % _
      rw [← Nat.mul_mod, ← Nat.pow_add, Nat.pow_succ, Nat.mul_two]
    · show (bvl f1 n1 ^ (bvl f2 n2 % 2 ^ t) % _) * (bvl f1 n1 ^ (2 ^ t) % _) % _ = bvl f1 n1 ^ (bvl f2 n2 % 2 ^ (t + 1)) % _
      rw [low_next, show bvl f2 n2 / 2 ^ t % 2 = 1 from ht, ← Nat.mul_mod, ← Nat.pow_add, Nat.mul_one]
    · show bvl f1 n1 ^ (bvl f2 n2 % 2 ^ t) % _ = bvl f1 n1 ^ (bvl f2 n2 % 2 ^ (t + 1)) % _
      rw [low_next, show bvl f2 n2 / 2 ^ t % 2 = 0 from ht, Nat.mul_zero, Nat.add_zero]
    · show _ = bvl f2 n2 / 2 ^ (8 * j + k) % 2
      have hd : dig (bvl f2 n2) j = f2 (n2 - 1 - j) := by rw [bvl_val]; exact dig_val hg hj
      rw [← hd, Nat.pow_add, ← Nat.div_div_eq_div_mul, show (2 : Nat) ^ (8 * j) = 256 ^ j by rw [Nat.pow_mul]]
      unfold dig
      generalize bvl f2 n2 / 256 ^ j = y
      have e : (256 : Nat) = 2 ^ k * (2 * 2 ^ (7 - k)) := by
        rw [← Nat.pow_succ', ← Nat.pow_add, show k + (7 - k + 1) = 8 by omega]
      rw [e, Nat.mod_mul_right_div_self, Nat.mod_mul_right_mod]
    · show bvl f1 n1 ^ (bvl f2 n2 % 2 ^ (8 * n2)) % _ = _
      rw [show (2 : Nat) ^ (8 * n2) = 256 ^ n2 by rw [Nat.pow_mul], Nat.mod_eq_of_lt (bvl_lt s2.small)]
end Go.Proofs.YtihefgpicnhdjaaDoor
/- The chapter's examples: the law's fixed; long. -/
namespace Go.Proofs.YtihefgpicnhdjaaDoor
open Go.RowKit SmWord
set_option maxRecDepth 100000

theorem sl_cells {w : World} {g n : Nat} {F : Nat → Nat} {t : TypeId} (h : w.heap[g]? = some (.cells (arr .u8 n fun i => ((F i : Nat) : Int)) t)) (hF : ∀ i, i < n → F i < 256) : Sl w (some ⟨g, 0, none⟩) n F :=
  ⟨hF, fun _ => ⟨g, 0, rfl, (Array.getElem?_eq_some_iff.1 h).1, fun i hi => by rw [Nat.zero_add]; exact blk_cell h (arr_get .u8 _ hi)⟩⟩
theorem sl_one {w : World} {g k : Nat} {t : TypeId} (h : w.heap[g]? = some (.cells #[.int .u8 (k : Int)] t)) (hk : k < 256) : Sl w (some ⟨g, 0, none⟩) 1 (fun _ => k) :=
  ⟨fun _ _ => hk, fun _ => ⟨g, 0, rfl, (Array.getElem?_eq_some_iff.1 h).1, fun i hi => by
    rw [show i = 0 by omega]
    exact blk_cell h rfl⟩⟩
theorem sl_none (w : World) (f : Nat → Nat) : Sl w none 0 f := ⟨fun i hi => by omega, fun h => by omega⟩
theorem dig_lt' (V : Nat) (i : Nat) : dig V i < 256 := Nat.mod_lt _ (by decide)
theorem powIs_sl {n V : Nat} {w w' : World} {e : Ending} (h : PowIs n V w e w') : ∃ A, e = .returned (.tuple #[.slice A n n, .int .i64 0]) ∧ (A = none → n = 0 ∧ n = 0) ∧ Sl w' A n (fun i => dig V (n - 1 - i)) ∧ Below w.heap.size w w' := by
  obtain ⟨g, rfl, _, hc, hb⟩ := h
  exact ⟨_, rfl, (fun e => by cases e), sl_cells hc fun i _ => dig_lt' _ _, hb⟩
theorem bvl_zero (n : Nat) : bvl (fun _ => 0) n = 0 := by
  induction n with
  | zero => rfl
  | succ n ih => rw [bvl_succ, ih]
theorem gas_nil (w : World) : Calls Tryd.prog 17 #[.slice none 0 0] w fun e w' => e = .returned (.int .u64 200) ∧ Below w.heap.size w w' := by
  have h := gas_walk none 0 0 (fun _ => 0) w (by omega) (Nat.le_refl _) (fun _ => ⟨rfl, rfl⟩) (sl_none _ _)
  have hp : ∀ a, pf (fun _ => 0) 0 a = fun _ => 0 := fun a => funext fun i => by unfold pf; split <;> rfl
  have e : gasN (fun _ => 0) 0 = 200 := by
    unfold gasN
    simp only [hp, bvl_zero, and_self, if_true]
  rwa [e] at h
end Go.Proofs.YtihefgpicnhdjaaDoor
/- The statement on powers: its walk. -/
namespace Go.Proofs.YtihefgpicnhdjaaDoor
open Go.RowKit SmWord
set_option maxRecDepth 100000

end Go.Proofs.YtihefgpicnhdjaaDoor
