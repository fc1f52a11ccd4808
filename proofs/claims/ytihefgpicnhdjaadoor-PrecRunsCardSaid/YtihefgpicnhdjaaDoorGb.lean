/- What the document's Part, Length, top and digits do. -/
import Derived.Test.YtihefgpicnhdjaaDoorGa
namespace Go.Proofs.YtihefgpicnhdjaaDoor
open Go.RowKit SmWord
set_option maxRecDepth 100000

set_option maxHeartbeats 1000000 in
theorem rpart_walk (A : Option Addr) (n c at' m : Nat) (f : Nat → Nat) (w : World) (hn : n ≤ 100000) (hm : m ≤ 1000) (ha : at' ≤ 2000000000000) (hs : Sl w A n f) :
    Calls Tryd.prog 20 #[.slice A n c, .int .i64 (at' : Int), .int .i64 (m : Int)] w (RetB m (pf f n at') w) := by
  have hpf : ∀ i, pf f n at' i < 256 := pf_lt hs.small at'
  go_enter Tryd.func20, Tryd.ntmps20
  go_wp2_with fail
  go_loopw [7, 8] (fun v i wr => ∃ k : Nat, k ≤ m ∧ i = .int .i64 (k : Int) ∧ wr.ownsRow w.heap.size 5 1 v k (bb (pf f n at') k) ∧ Below w.heap.size w wr) (fun _ i _ => m - (intOf i).toNat)
  case atStart => exact ⟨0, Nat.zero_le _, rfl, ⟨rfl, .inr ⟨w.heap.size, 0, #[], rfl, Nat.le_refl _, heap_alloc_new _ _, Nat.le_refl _, Nat.zero_le _, rfl, rfl⟩⟩, (Below.refl _ _).alloc (Nat.le_refl _) _⟩
  case round =>
    obtain ⟨k, hk, rfl, hown, bW⟩ := hrel
    by_cases hlt : k < m
    · have hb : bb (pf f n at') k ++ [.int .u8 ((pf f n at' k : Nat) : Int)] = bb (pf f n at') (k + 1) := by simp [bb, List.range_succ]
      have HB := Lib.hid hb
      have hp := hpf k
      clear hb
      by_cases hin : at' + k < n
      · obtain ⟨b, off, rfl, hbl, hc⟩ := (hs.below bW).cells (by omega)
        have c1 := hc (at' + k) hin
        have hpk : pf f n at' k = f (at' + k) := if_pos hin
        rw [hpk] at HB hp
        have e1 : (at' : Int) + (k : Int) = ((at' + k : Nat) : Int) := by omega
        have hw : IntKind.u8.wrap ((f (at' + k) : Nat) : Int) = ((f (at' + k) : Nat) : Int) := by rw [IntKind.wrap_u8]; omega
        have hq : at' + k ≤ 100000 := by omega
        have HPF := Lib.hid hpf
        have HS := Lib.hid hs
        clear hc hs hpk hpf
        generalize at' + k = j at *
        go_wp2_with (at_builtin; refine append_one rfl _ _ rfl w.heap.size _ k _ rfl (hown.alloc _) ⟨wr.heap.size, 0, none⟩ ((f j : Nat) : Int) rfl (one_new _ _ _) (by omega) (by have := bW.size; simp; omega) ?_)
        intro v' w3 hown' hgrow
        rw [HB.out] at hown'
        have hr := fun g hg => (hown.lt g hg).1
        have hsz := bW.size
        have bX : Below w.heap.size w w3 := (bW.alloc (o := .cells #[.int .u8 ((f j : Nat) : Int)] 5) hsz).grown hgrow (by simp; omega) (fun g hg => hr g hg)
        clear hown hgrow bW hr
        go_wp2_with fail
        exact ⟨⟨k + 1, by omega, by go_num, hown', bX⟩, by simp only [intOf]; omega⟩
      · have hpk : pf f n at' k = 0 := if_neg hin
        rw [hpk] at HB
        have HPF := Lib.hid hpf
        have HS := Lib.hid hs
        have e1 : (at' : Int) + (k : Int) = ((at' + k : Nat) : Int) := by omega
        have hq : at' + k ≤ 2000000001000 := by omega
        clear hs hpk hpf hp
        generalize at' + k = j at *
        go_wp2_with (at_builtin; refine append_one rfl _ _ rfl w.heap.size _ k _ rfl (hown.alloc _) ⟨wr.heap.size, 0, none⟩ 0 rfl (one_new _ _ _) (by omega) (by have := bW.size; simp; omega) ?_)
        intro v' w3 hown' hgrow
        replace hown' := HB.out ▸ hown'
        have hr := fun g hg => (hown.lt g hg).1
        have hsz := bW.size
        have bX : Below w.heap.size w w3 := (bW.alloc (o := .cells #[.int .u8 0] 5) hsz).grown hgrow (by simp; omega) (fun g hg => hr g hg)
        clear hown hgrow bW hr
        go_wp2_with fail
        exact ⟨⟨k + 1, by omega, by go_num, hown', bX⟩, by simp only [intOf]; omega⟩
    · obtain rfl : k = m := by omega
      go_wp2_with fail
      go_ret
      obtain ⟨A', c', e, hc', hn', hsl⟩ := own_sl hown (fun i _ => hpf i)
      exact ⟨A', c', by rw [e]; rfl, hc', hn', hsl, bW⟩
end Go.Proofs.YtihefgpicnhdjaaDoor
/- What the document's Length, top and digits do. -/
namespace Go.Proofs.YtihefgpicnhdjaaDoor
open Go.RowKit SmWord
set_option maxRecDepth 100000

theorem bvl_noughts {F : Nat → Nat} : ∀ j, (∀ x, x < j → F x = 0) → bvl F j = 0 := fun j => by
  induction j with
  | zero => intro _; rfl
  | succ j ih =>
    intro h
    rw [bvl_succ, ih (fun x hx => h x (by omega)), h j (by omega)]
theorem len_low {F : Nat → Nat} (hF : ∀ i, F i < 256) : ∀ j, (∀ x, x < j → x < 24 → F x = 0) → bvl F j < 256 ^ (j - 24) := fun j => by
  induction j with
  | zero => intro _; exact Nat.pow_pos (n := 0 - 24) (by decide)
  | succ j ih =>
    intro h
    have h1 := ih fun x hx => h x (by omega)
    rw [bvl_succ]
    by_cases hj : j < 24
    · rw [show j - 24 = 0 by omega, Nat.pow_zero] at h1
      rw [show j + 1 - 24 = 0 by omega, Nat.pow_zero, h j (by omega) hj]
      omega
    · rw [show j + 1 - 24 = j - 24 + 1 by omega, Nat.pow_succ]
      have := hF j
      generalize 256 ^ (j - 24) = p at *
      generalize bvl F j = v at *
      omega
theorem len_high {F : Nat → Nat} {j : Nat} (h : F j ≠ 0) : ∀ r, 256 ^ r ≤ bvl F (j + 1 + r) := fun r => by
  induction r with
  | zero => rw [Nat.add_zero, bvl_succ, Nat.pow_zero]; omega
  | succ r ih =>
    rw [← Nat.add_assoc, bvl_succ, Nat.pow_succ]
    generalize 256 ^ r = p at *
    generalize bvl F (j + 1 + r) = v at *
    omega
theorem len_pow {j : Nat} (hj : j ≤ 32) : 256 ^ (j - 24) ≤ 18446744073709551616 :=
  Nat.le_trans (Nat.pow_le_pow_right (by decide) (show j - 24 ≤ 8 by omega)) (by decide)
theorem len_far {F : Nat → Nat} {j : Nat} (hj : j < 24) (h : F j ≠ 0) : B ≤ bvl F 32 := by
  have h1 := len_high h (31 - j)
  rw [show j + 1 + (31 - j) = 32 by omega] at h1
  exact Nat.le_trans (Nat.le_trans (show B ≤ 256 ^ 8 by decide) (Nat.pow_le_pow_right (by decide) (by omega))) h1
/-- One of the three lengths, and whether it is below 2^64. -/
def LenIs (V : Nat) (w : World) (e : Ending) (w' : World) : Prop := e = .returned (.tuple #[.int .u64 ((if V < B then V else 0 : Nat) : Int), .bool (decide (V < B))]) ∧ Below w.heap.size w w'
set_option maxHeartbeats 2000000 in
theorem rlen_walk (A : Option Addr) (n c k : Nat) (f : Nat → Nat) (w : World) (hn : n ≤ 100000) (hk : k ≤ 2) (hs : Sl w A n f) :
    Calls Tryd.prog 12 #[.slice A n c, .int .i64 (k : Int)] w (LenIs (bvl (pf f n (32 * k)) 32) w) := by
  have HP := Lib.hid (rpart_walk A n c (32 * k) 32 f w hn (by decide) (by omega) hs)
  have hF := pf_lt hs.small (32 * k)
  obtain ⟨F, hFe⟩ : ∃ F, F = pf f n (32 * k) := ⟨_, rfl⟩
  rw [← hFe] at hF HP ⊢
  have w1 : 32 * (k : Int) = ((32 * k : Nat) : Int) := by omega
  have w2 : IntKind.i64.wrap ((32 * k : Nat) : Int) = ((32 * k : Nat) : Int) := by rw [IntKind.wrap_i64]; omega
  clear hs hFe hn
  obtain ⟨q, hq⟩ : ∃ q, q = 32 * k := ⟨_, rfl⟩
  rw [← hq] at w1 w2 HP
  clear hq
  go_enter Tryd.func12, Tryd.ntmps12
  go_wp2_with fail
  refine (HP.out).mono ?_
  rintro _ w3 ⟨A1, c1, rfl, _, _, hs1, b1⟩
  have HF := Lib.hid hF
  clear HP hF w1 w2
  go_wp2_with fail
  go_loopw [7, 8] (fun v i wr => ∃ j : Nat, j ≤ 32 ∧ i = .int .i64 (j : Int) ∧ v = .int .u64 ((bvl F j : Nat) : Int) ∧ Hid (∀ x, x < j → x < 24 → F x = 0) ∧ w3 = wr) (fun _ i _ => 32 - (intOf i).toNat)
  case atStart => exact ⟨0, by omega, rfl, rfl, Lib.hid (fun x hx => by omega), rfl⟩
  case round =>
    obtain ⟨j, hj, rfl, rfl, hz, rfl⟩ := hrel
    by_cases hlt : j < 32
    · obtain ⟨b, off, rfl, hbl, hc⟩ := hs1.cells (by omega)
      have c1 := hc j hlt
      have hf := HF.out j
      have HC := Lib.hid hs1
      have hlow := len_low HF.out j hz.out
      have hpw := len_pow (Nat.le_of_lt hlt)
      have hb64 : bvl F j < 18446744073709551616 := Nat.lt_of_lt_of_le hlow hpw
      by_cases h24 : j < 24
      · by_cases hne : F j = 0
        · have hz' : Hid (∀ x, x < j + 1 → x < 24 → F x = 0) := Lib.hid fun x hx h => by
            by_cases e : x = j
            · rw [e]; exact hne
            · exact hz.out x (by omega) h
          have hv : bvl F (j + 1) = 0 := bvl_noughts _ fun x hx => hz'.out x hx (by omega)
          have hv0 : bvl F j = 0 := bvl_noughts _ fun x hx => hz.out x hx (by omega)
          have HV := Lib.hid hv
          rw [hne] at c1
          rw [hv0]
          clear hc hs1 hbl hz hlow hpw hb64 hv hv0 hf hne
          go_wp2_with fail
          exact ⟨⟨j + 1, by omega, by go_num, by rw [HV.out]; rfl, hz', by first | trivial | rfl⟩, by simp only [intOf]; omega⟩
        · have hfar := len_far h24 hne
          have HFar := Lib.hid hfar
          have hne' : (((F j : Nat) : Int) == 0) = false := by rw [beq_eq_false_iff_ne]; omega
          clear hc hs1 hbl hz hlow hpw hb64 hfar
          go_wp2_with fail
          go_ret2
          refine ⟨?_, b1⟩
          rw [if_neg (by have := HFar.out; omega), decide_eq_false (by have := HFar.out; omega)]
          rfl
      · have hz' : Hid (∀ x, x < j + 1 → x < 24 → F x = 0) := Lib.hid fun x hx h => hz.out x (by omega) h
        have hlow' := Nat.lt_of_lt_of_le (len_low HF.out (j + 1) hz'.out) (len_pow (j := j + 1) (by omega))
        rw [bvl_succ] at hlow'
        have hv := bvl_succ F j
        have HV := Lib.hid hv
        have wm : IntKind.u64.wrap (((bvl F j : Nat) : Int) * 256) = ((bvl F j * 256 : Nat) : Int) := by rw [IntKind.wrap_u64]; omega
        have wf : IntKind.u64.wrap ((F j : Nat) : Int) = ((F j : Nat) : Int) := by rw [IntKind.wrap_u64]; omega
        have wa : IntKind.u64.wrap (((bvl F j * 256 : Nat) : Int) + ((F j : Nat) : Int)) = ((bvl F j * 256 + F j : Nat) : Int) := by rw [IntKind.wrap_u64]; omega
        clear hc hs1 hbl hz hlow hpw hv
        generalize bvl F j = v at *
        go_wp2_with fail
        exact ⟨⟨j + 1, by omega, by go_num, by rw [HV.out]; first | rfl | (congr 1; omega), hz', by first | trivial | rfl⟩, by simp only [intOf]; omega⟩
    · obtain rfl : j = 32 := by omega
      have hlow := Nat.lt_of_lt_of_le (len_low HF.out 32 hz.out) (len_pow (Nat.le_refl _))
      have HV : Hid (bvl F 32 < B) := Lib.hid (by simp only [B]; exact hlow)
      clear hlow
      go_wp2_with fail
      go_ret2
      refine ⟨?_, b1⟩
      rw [if_pos HV.out, decide_eq_true HV.out]
      rfl
set_option maxHeartbeats 1000000 in
theorem digits_ref (X : Nat) (w : World) (hX : X < B) : Calls Tryd.prog 38 #[.int .u64 (X : Int)] w (RetL 8 X w) := by
  obtain ⟨i0, hi, hz0, hz1, hz2⟩ := info_parts Tryd.info3
  have hX8 : X < 256 ^ 8 := hX
  have HX := Lib.hid hX8
  have hX64 : X < 18446744073709551616 := hX
  clear hX hX8
  go_enter Tryd.func38, Tryd.ntmps38
  go_wp2_with fail
  go_loopw [0, 3] (fun x v wr => ∃ k : Nat, k ≤ 8 ∧ x = .int .u64 ((X / 256 ^ k : Nat) : Int) ∧ wr.ownsRow w.heap.size 3 1 v k (dg X k) ∧ Below w.heap.size w wr) (fun x _ _ => (intOf x).toNat)
  case atStart => exact ⟨0, Nat.zero_le _, by rw [Nat.pow_zero, Nat.div_one], own_empty _ (Nat.le_refl _), (Below.refl _ _).alloc (Nat.le_refl _) _⟩
  case round =>
    obtain ⟨k, hk, rfl, hown, bW⟩ := hrel
    have hle : X / 256 ^ k ≤ X := Nat.div_le_self _ _
    have hstep : X / 256 ^ k / 256 = X / 256 ^ (k + 1) := by rw [Nat.pow_succ, Nat.div_div_eq_div_mul]
    have hdig : X / 256 ^ k % 256 = dig X k := rfl
    have hk8 : k = 8 → X / 256 ^ k = 0 := fun e => by rw [e]; exact Nat.div_eq_of_lt HX.out
    have HZ : Hid (X / 256 ^ k = 0 → X < 256 ^ k) := Lib.hid fun e => by
      rcases Nat.lt_or_ge X (256 ^ k) with h | h
      · exact h
      · have := Nat.div_pos h (Nat.pow_pos (by decide))
        omega
    have HS := Lib.hid hstep
    have HD := Lib.hid hdig
    clear hstep hdig
    generalize hY : X / 256 ^ k = Y at *
    have HY := Lib.hid hY
    clear hY
    by_cases hlt : 0 < Y
    · have hk' : k < 8 := by
        rcases Nat.lt_or_ge k 8 with h | h
        · exact h
        · have := hk8 (by omega)
          omega
      have m1 : ((Y : Nat) : Int) % 256 = ((dig X k : Nat) : Int) := by have := HD.out; omega
      have m2 : (Y : Int).tmod 256 = ((dig X k : Nat) : Int) := by rw [Int.tmod_eq_emod_of_nonneg (by omega)]; exact m1
      have m3 : ((Y : Nat) : Int) / 256 = ((X / 256 ^ (k + 1) : Nat) : Int) := by rw [← HS.out]; omega
      have m4 : (Y : Int).tdiv 256 = ((X / 256 ^ (k + 1) : Nat) : Int) := by rw [Int.tdiv_eq_ediv_of_nonneg (by omega)]; exact m3
      have hd := dig_lt X k
      have hnx : X / 256 ^ (k + 1) < Y := by rw [← HS.out]; omega
      clear hk8
      generalize hZe : X / 256 ^ (k + 1) = Z at *
      have HZe := Lib.hid hZe
      clear hZe
      have wd1 : IntKind.i64.wrap ((dig X k : Nat) : Int) = ((dig X k : Nat) : Int) := by rw [IntKind.wrap_i64]; omega
      have hdgs := dg_succ X k
      have HDG := Lib.hid hdgs
      clear hdgs
      generalize dig X k = d at *
      go_wp2_with (at_builtin; refine wpList_append_own _ rfl _ _ 71 rfl w.heap.size 3 i0 (.int .i64 0) 1 8 Tryd.underlying71 hi hz0 hz1 hz2 rfl (by decide) _ _ _ rfl (hown.alloc _) ⟨wr.heap.size, 0, none⟩ 1 1 [.int .i64 ((d : Nat) : Int)] rfl rfl ?c1 ?c2 ?c3 ?c4 ?c5 ?_)
      case c1 => exact own_one _ _
      case c2 => simp [Value.oneCell']
      case c3 => unfold maxLen; omega
      case c4 => omega
      case c5 => have := bW.size; simp; omega
      intro v' w3 hown' hgrow _
      rw [HDG.out] at hown'
      have hr := fun g hg => (hown.lt g hg).1
      have hsz := bW.size
      have bX : Below w.heap.size w w3 := (bW.alloc (o := .cells #[.int .i64 ((d : Nat) : Int)] 3) hsz).grown hgrow (by simp; omega) (fun g hg => hr g hg)
      clear hown hgrow bW hr
      go_wp2_with fail
      exact ⟨⟨k + 1, by omega, by rw [HZe.out], hown', bX⟩, by simp only [intOf]; omega⟩
    · obtain rfl : Y = 0 := by omega
      have hsm := HZ.out rfl
      have HSM := Lib.hid hsm
      clear hsm hk8 hlt
      go_wp2_with fail
      go_ret
      exact ⟨_, k, rfl, hk, NumS.of_owns hown HSM.out (by omega), bW⟩

set_option maxHeartbeats 1000000 in
theorem top_core (A : Option Addr) (n c D L t : Nat) (w : World) (hL : (L : Int) ≤ 1000) (ht : t = L - 1)
    (HF : Hid (Calls Tryd.prog 61 #[.slice A n c] w fun e w' => e = .returned (.agg (da D)) ∧ Below w.heap.size w w'))
    (HL : Hid (∀ w, Calls Tryd.prog 62 #[.agg (da D)] w fun e w' => e = .returned (.int .i64 (L : Int)) ∧ Below w.heap.size w w')) :
    Calls Tryd.prog 37 #[.slice A n c] w fun e w' => e = .returned (.int .u64 (t : Int)) ∧ Below w.heap.size w w' := by
  have HT := Lib.hid ht
  clear ht
  go_enter Tryd.func37, Tryd.ntmps37
  go_wp2_with fail
  refine (HF.out).mono ?_
  rintro _ w1 ⟨rfl, b1⟩
  go_wp2_with fail
  refine (HL.out _).mono ?_
  rintro _ w2 ⟨rfl, b2⟩
  have HB := Lib.hid (b1.trans (b2.mono b1.size))
  clear b1 b2 HF HL
  by_cases h0 : L = 0
  · subst h0
    go_wp2_with fail
    go_ret
    exact ⟨by rw [HT.out]; rfl, HB.out⟩
  · have e0 : (((L : Nat) : Int) == 0) = false := by rw [beq_eq_false_iff_ne]; omega
    have e1 : (L : Int) - 1 = (t : Int) := by have := HT.out; omega
    have e2 : IntKind.u64.wrap (t : Int) = (t : Int) := by rw [IntKind.wrap_u64]; omega
    clear h0
    go_wp2_with fail
    go_ret
    exact ⟨rfl, HB.out⟩
theorem top_ref (A : Option Addr) (n c : Nat) (f : Nat → Nat) (w : World) (hn : n ≤ 32) (hs : Sl w A n f) :
    Calls Tryd.prog 37 #[.slice A n c] w fun e w' => e = .returned (.int .u64 ((bl (bvl f n) - 1 : Nat) : Int)) ∧ Below w.heap.size w w' := by
  have hb : bvl f n < M := bvl_wordlt hs.small hn
  have hbl : bl (bvl f n) ≤ 256 := bl_le (by have := hb; rwa [show M = 2 ^ 256 by decide] at this)
  refine top_core A n c (bvl f n) (bl (bvl f n)) _ w (by omega) rfl (Lib.hid ?_) (Lib.hid fun w => ?_)
  · rw [bvl_val]
    exact from_ref A n c n f w (Nat.le_trans hn (by decide)) (by omega) hs
  · have := len_ref (bvl f n) w
    rwa [Nat.mod_eq_of_lt hb] at this
end Go.Proofs.YtihefgpicnhdjaaDoor
/- What the document's Gas does. -/
namespace Go.Proofs.YtihefgpicnhdjaaDoor
open Go.RowKit SmWord
set_option maxRecDepth 100000

/-- What returns a number of 64 bits, and whether. -/
def LenV (L : Nat) (x : Bool) (w : World) (e : Ending) (w' : World) : Prop := e = .returned (.tuple #[.int .u64 (L : Int), .bool x]) ∧ Below w.heap.size w w'
set_option maxHeartbeats 4000000 in
theorem rgas_bad (A : Option Addr) (n c : Nat) (G L0 L1 L2 : Nat) (x y z : Bool) (w : World)
    (H0 : Hid (Calls Tryd.prog 12 #[.slice A n c, .int .i64 0] w (LenV L0 x w)))
    (H1 : Hid (∀ w', Below w.heap.size w w' → Calls Tryd.prog 12 #[.slice A n c, .int .i64 1] w' (LenV L1 y w')))
    (H2 : Hid (∀ w', Below w.heap.size w w' → Calls Tryd.prog 12 #[.slice A n c, .int .i64 2] w' (LenV L2 z w')))
    (hc : Hid ((x = true ∧ z = true ∧ L0 = 0 ∧ L2 = 0 ∧ G = 200) ∨ (x = false ∧ G = 18446744073709551615) ∨ (x = true ∧ z = false ∧ G = 18446744073709551615) ∨ (x = true ∧ z = true ∧ y = false ∧ L0 ≠ 0 ∧ G = 18446744073709551615) ∨ (x = true ∧ z = true ∧ y = false ∧ L0 = 0 ∧ L2 ≠ 0 ∧ G = 18446744073709551615))) :
    Calls Tryd.prog 19 #[.slice A n c] w fun e w' => e = .returned (.int .u64 (G : Int)) ∧ Below w.heap.size w w' := by
  go_enter Tryd.func19, Tryd.ntmps19
  go_wp2_with fail
  refine (H0.out).mono ?_
  rintro _ w1 ⟨rfl, b1⟩
  have HL := Lib.hid (H1.out _ b1)
  have BW := Lib.hid b1
  clear H0 H1 b1
  go_wp2_with fail
  refine (HL.out).mono ?_
  rintro _ w2 ⟨rfl, b1⟩
  have BW2 := Lib.hid (BW.out.trans (b1.mono BW.out.size))
  have HL2 := Lib.hid (H2.out _ BW2.out)
  clear HL BW b1 H2
  go_wp2_with fail
  refine (HL2.out).mono ?_
  rintro _ w3 ⟨rfl, b1⟩
  have BW := Lib.hid (BW2.out.trans (b1.mono BW2.out.size))
  clear HL2 BW2 b1
  rcases hc.out with ⟨rfl, rfl, rfl, rfl, hg⟩ | ⟨rfl, hg⟩ | ⟨rfl, rfl, hg⟩ | ⟨rfl, rfl, rfl, h0, hg⟩ | ⟨rfl, rfl, rfl, rfl, h2, hg⟩
  · have HG := Lib.hid hg
    clear hc hg
    go_wp2_with fail
    go_ret
    exact ⟨by rw [HG.out]; rfl, BW.out⟩
  · have HG := Lib.hid hg
    clear hc hg
    go_wp2_with fail
    go_ret
    exact ⟨by rw [HG.out]; rfl, BW.out⟩
  · have HG := Lib.hid hg
    clear hc hg
    cases y <;> (go_wp2_with fail; go_ret; exact ⟨by rw [HG.out]; rfl, BW.out⟩)
  · have HG := Lib.hid hg
    have e2 : (((L0 : Nat) : Int) == 0) = false := by rw [beq_eq_false_iff_ne]; omega
    clear hc hg
    go_wp2_with fail
    go_ret
    exact ⟨by rw [HG.out]; rfl, BW.out⟩
  · have HG := Lib.hid hg
    have e2 : (((L2 : Nat) : Int) == 0) = false := by rw [beq_eq_false_iff_ne]; omega
    clear hc hg
    go_wp2_with fail
    go_ret
    exact ⟨by rw [HG.out]; rfl, BW.out⟩
end Go.Proofs.YtihefgpicnhdjaaDoor
/- What the document's Gas does: an input whose lengths are all small. -/
namespace Go.Proofs.YtihefgpicnhdjaaDoor
open Go.RowKit SmWord
set_option maxRecDepth 100000

theorem ends_quo {q k : Nat} (h : q < 256 ^ k) : q / 256 ^ k = 0 := Nat.div_eq_of_lt h
theorem step_quo (q k : Nat) : q / 256 ^ k = q / 256 ^ (k + 1) * 256 + dig q k := by
  have := dig_up q k
  rw [this]
  omega
set_option maxHeartbeats 8000000 in
theorem rgas_near (A : Option Addr) (n c : Nat) (G L0 L1 L2 kk H T mx W0 r8 W C0 C Q at' : Nat) (g : Nat → Nat) (w : World)
    (b0 : L0 < 18446744073709551616) (b1 : L1 < 18446744073709551616) (b2 : L2 < 18446744073709551616)
    (H0 : Hid (Calls Tryd.prog 12 #[.slice A n c, .int .i64 0] w (LenV L0 true w)))
    (H1 : Hid (∀ w', Below w.heap.size w w' → Calls Tryd.prog 12 #[.slice A n c, .int .i64 1] w' (LenV L1 true w')))
    (H2 : Hid (∀ w', Below w.heap.size w w' → Calls Tryd.prog 12 #[.slice A n c, .int .i64 2] w' (LenV L2 true w')))
    (hz : Hid (¬ (L0 = 0 ∧ L2 = 0)))
    (hkk : min (L1 : Int) 32 = (kk : Int)) (hat : Hid (96 + L0 = at'))
    (HP : Hid (L0 < 1099511627776 → ∀ w', Below w.heap.size w w' → Calls Tryd.prog 20 #[.slice A n c, .int .i64 (at' : Int), .int .i64 (kk : Int)] w' (RetB kk g w')))
    (hH1 : Hid (L0 < 1099511627776 → bvl g kk = H)) (hH0 : Hid (¬ L0 < 1099511627776 → H = 0))
    (hT : Hid (bl H - 1 = T)) (hTB : Hid (T < B))
    (hmx : max (L0 : Int) (L2 : Int) = (mx : Int)) (hW0 : Hid (mx / 8 = W0)) (hr8 : Hid (mx % 8 = r8)) (hW : Hid ((if r8 = 0 then W0 else W0 + 1) = W)) (hWB : Hid (W < B))
    (hC0 : Hid (T + (if 32 < L1 then (L1 - 32) * 8 else 0) = C0)) (hC : Hid ((if C0 = 0 then 1 else C0) = C)) (hQ : Hid (W * W * C / 3 = Q))
    (hG : Hid ((if Q < 18446744073709551615 then max Q 200 else 18446744073709551615) = G)) :
    Calls Tryd.prog 19 #[.slice A n c] w fun e w' => e = .returned (.int .u64 (G : Int)) ∧ Below w.heap.size w w' := by
  go_enter Tryd.func19, Tryd.ntmps19
  go_wp2_with fail
  refine (H0.out).mono ?_
  rintro _ w1 ⟨rfl, b1⟩
  have HL := Lib.hid (H1.out _ b1)
  have BW := Lib.hid b1
  clear H0 H1 b1
  go_wp2_with fail
  refine (HL.out).mono ?_
  rintro _ w2 ⟨rfl, b1⟩
  have BW2 := Lib.hid (BW.out.trans (b1.mono BW.out.size))
  have HL2 := Lib.hid (H2.out _ BW2.out)
  clear HL BW b1 H2
  go_wp2_with fail
  refine (HL2.out).mono ?_
  rintro _ w3 ⟨rfl, b1⟩
  have BW := Lib.hid (BW2.out.trans (b1.mono BW2.out.size))
  clear HL2 BW2 b1
  go_upto_region 5 with fail
  go_cut [44] (fun v wx => v = .bool false ∧ w3 = wx)
  case first =>
    clear hkk hmx
    by_cases z0 : L0 = 0
    · have z2 : ¬ L2 = 0 := fun h => hz.out ⟨z0, h⟩
      have e2 : (((L2 : Nat) : Int) == 0) = false := by rw [beq_eq_false_iff_ne]; omega
      subst z0
      clear z2
      go_wp2_with fail
      go_meet
      exact ⟨rfl, rfl⟩
    · have e2 : (((L0 : Nat) : Int) == 0) = false := by rw [beq_eq_false_iff_ne]; omega
      clear z0
      go_wp2_with fail
      go_meet
      exact ⟨rfl, rfl⟩
  case rest =>
    obtain ⟨rfl, rfl⟩ := hcut
    go_upto_if 58 with fail
    have bE : Below w.heap.size w (w3.alloc (.cells #[] 5)) := BW.out.alloc BW.out.size _
    have sE : Sl (w3.alloc (.cells #[] 5)) (some ⟨w3.heap.size, 0, none⟩) 0 (fun _ => 0) := ⟨fun _ h => by omega, fun h => by omega⟩
    have BE := Lib.hid bE
    clear bE BW
    have hk32 : kk ≤ 32 := by omega
    have e1 : IntKind.i64.wrap (kk : Int) = (kk : Int) := by rw [IntKind.wrap_i64]; omega
    generalize hbe : w3.heap.size = be at *
    generalize w3.alloc (.cells #[] 5) = w4 at *
    clear hbe
    go_cut [10] (fun v wx => ∃ (A' : Option Addr) (k c' : Nat) (h : Nat → Nat), v = .slice A' k c' ∧ k ≤ 32 ∧ Hid (Sl wx A' k h) ∧ Hid (bvl h k = H) ∧ Hid (Below w.heap.size w wx))
    case first =>
      by_cases hb : L0 < 1099511627776
      · have HP' := Lib.hid (HP.out hb _ BE.out)
        have HH := Lib.hid (hH1.out hb)
        have HA := hat.out
        have e2 : IntKind.i64.wrap (L0 : Int) = (L0 : Int) := by rw [IntKind.wrap_i64]; omega
        have e3 : 96 + (L0 : Int) = (at' : Int) := by omega
        have e4 : IntKind.i64.wrap (at' : Int) = (at' : Int) := by rw [IntKind.wrap_i64]; omega
        have hbb : decide ((L0 : Int) < 1099511627776) = true := decide_eq_true (by omega)
        clear HP hH1 hH0 HA hmx sE hb hat hz b0 hW0 hr8 hW hC0 hC hG hQ
        rw [hbb]
        clear hbb
        go_wp2_with fail
        refine (HP'.out).mono ?_
        rintro _ w5 ⟨A5, c5, rfl, _, _, s5, b5⟩
        go_wp2_with fail
        go_meet
        exact ⟨A5, kk, c5, g, rfl, hk32, Lib.hid s5, HH, Lib.hid (BE.out.trans (b5.mono BE.out.size))⟩
      · have HH := Lib.hid (hH0.out hb)
        have hbb : decide ((L0 : Int) < 1099511627776) = false := decide_eq_false (by omega)
        clear HP hH1 hH0 hmx hb
        rw [hbb]
        clear hbb
        go_wp2_with fail
        go_meet
        exact ⟨_, 0, 0, fun _ => 0, rfl, by omega, Lib.hid sE, Lib.hid HH.out.symm, BE⟩
    case rest =>
      clear HP hH1 hH0 sE BE e1 hkk hk32 hat hz
      obtain ⟨A5, k5, c5, h5, rfl, hk5, S5, HH, BW⟩ := hcut
      go_wp2_with fail
      refine (top_ref A5 k5 c5 h5 _ hk5 S5.out).mono ?_
      rintro _ w5 ⟨rfl, bb⟩
      rw [HH.out, hT.out]
      have BE := Lib.hid (BW.out.trans (bb.mono BW.out.size))
      clear bb BW S5 hk5 HH hT
      have e2 : (mx : Int) / 8 = (W0 : Int) := by have := hW0.out; omega
      have e3 : (mx : Int).tdiv 8 = (W0 : Int) := by rw [Int.tdiv_eq_ediv_of_nonneg (by omega)]; exact e2
      have e4 : (mx : Int) % 8 = (r8 : Int) := by have := hr8.out; omega
      have e5 : (mx : Int).tmod 8 = (r8 : Int) := by rw [Int.tmod_eq_emod_of_nonneg (by omega)]; exact e4
      have hr := hW.out
      have hB8 : W0 < 18446744073709551615 := by have := hW0.out; omega
      go_upto_if 77 with fail
      go_cut [12] (fun v wx => v = .int .u64 (W : Int) ∧ w5 = wx)
      case first =>
        by_cases hz8 : r8 = 0
        · subst hz8
          rw [if_pos rfl] at hr
          subst hr
          go_wp2_with fail
          go_meet
          exact ⟨rfl, rfl⟩
        · rw [if_neg hz8] at hr
          have eW : (W0 : Int) + 1 = (W : Int) := by omega
          have ne8 : (((r8 : Nat) : Int) != 0) = true := by simp; omega
          have wW : IntKind.u64.wrap (W : Int) = (W : Int) := by rw [IntKind.wrap_u64]; omega
          clear hr
          go_wp2_with fail
          go_meet
          exact ⟨rfl, rfl⟩
      case rest =>
        obtain ⟨rfl, rfl⟩ := hcut
        clear e2 e3 e4 e5 hr hB8 hmx hW0 hr8 hW
        go_wp2_with fail
        refine (digits_ref T _ hTB.out).mono ?_
        rintro _ w6 ⟨v6, k6, rfl, hk6, g6, bb⟩
        have BW := Lib.hid (BE.out.trans (bb.mono BE.out.size))
        have G6 := Lib.hid g6
        clear bb BE g6 hTB
        have D8 : Hid (∀ w, Calls Tryd.prog 38 #[.int .u64 8] w (RetL 8 8 w)) := Lib.hid fun w => digits_ref 8 w (by decide)
        have hc0 := hC0.out
        clear hC0
        go_upto_if 83 with fail
        go_cut [13] (fun v wx => ∃ k : Nat, k ≤ 18 ∧ Hid (NumS wx v k C0) ∧ Hid (Below w.heap.size w wx))
        case first =>
          by_cases h32 : 32 < L1
          · rw [if_pos h32] at hc0
            have hxB : L1 - 32 < B := by simp only [B]; omega
            have e1 : (L1 : Int) - 32 = ((L1 - 32 : Nat) : Int) := by omega
            have e4 : decide ((32 : Int) < L1) = true := decide_eq_true (by omega)
            generalize L1 - 32 = x at *
            have e2 : IntKind.u64.wrap (x : Int) = (x : Int) := by rw [IntKind.wrap_u64]; simp only [B] at hxB; omega
            have DX := Lib.hid (fun w => digits_ref x w hxB)
            have HC0 := Lib.hid hc0
            clear hc0 hxB
            go_wp2_with fail
            refine (DX.out _).mono ?_
            rintro _ w7 ⟨v7, k7, rfl, hk7, g7, b7⟩
            go_wp2_with fail
            refine (D8.out _).mono ?_
            rintro _ w8 ⟨v8, k8, rfl, hk8, g8, b8⟩
            go_wp2_with fail
            refine (times_ref v7 v8 k7 k8 _ _ _ (g7.stays b8) g8 ⟨by omega, by omega⟩).mono ?_
            rintro _ w9 ⟨v9, rfl, g9, b9⟩
            have b10 := b7.trans (b8.mono b7.size)
            replace b10 := b10.trans (b9.mono b10.size)
            go_wp2_with fail
            refine (plus_ref v6 v9 k6 (k7 + k8 + 1) _ _ _ (G6.out.stays b10) g9 ⟨by omega, by omega⟩).mono ?_
            rintro _ w10 ⟨v10, rfl, g10, b11⟩
            replace b10 := b10.trans (b11.mono b10.size)
            rw [HC0.out] at g10
            go_wp2_with fail
            go_meet
            exact ⟨_, by omega, Lib.hid g10, Lib.hid (BW.out.trans (b10.mono BW.out.size))⟩
          · rw [if_neg h32, Nat.add_zero] at hc0
            have e4 : decide ((32 : Int) < L1) = false := decide_eq_false (by omega)
            subst hc0
            clear D8
            go_wp2_with fail
            go_meet
            exact ⟨k6, by omega, G6, BW⟩
        case rest =>
          clear G6 BW D8 hc0
          obtain ⟨kc, hkc, gc, BW⟩ := hcut
          go_wp2_with fail
          refine (zero_ref _ kc C0 _ gc.out).mono ?_
          rintro _ w7 ⟨rfl, rfl⟩
          have hc := hC.out
          obtain ⟨zb, hzb⟩ : ∃ zb, zb = decide (C0 = 0) := ⟨_, rfl⟩
          rw [← hzb]
          have HZB := Lib.hid hzb
          clear hzb
          have D1 : Hid (∀ w, Calls Tryd.prog 38 #[.int .u64 1] w (RetL 8 1 w)) := Lib.hid fun w => digits_ref 1 w (by decide)
          have BWX := Lib.hid BW.out
          have GCX := Lib.hid gc.out
          clear hC BW gc
          go_upto_if 92 with fail
          go_cut [13] (fun v wx => ∃ k : Nat, k ≤ 18 ∧ Hid (NumS wx v k C) ∧ Hid (Below w.heap.size w wx))
          case first =>
            cases zb with
            | true =>
              rw [if_pos (of_decide_eq_true HZB.out.symm)] at hc
              subst hc
              clear HZB
              go_wp2_with fail
              refine (D1.out _).mono ?_
              rintro _ w8 ⟨v8, k8, rfl, hk8, g8, b8⟩
              go_wp2_with fail
              go_meet
              exact ⟨k8, by omega, Lib.hid g8, Lib.hid (BWX.out.trans (b8.mono BWX.out.size))⟩
            | false =>
              rw [if_neg (of_decide_eq_false HZB.out.symm)] at hc
              subst hc
              clear HZB
              go_wp2_with fail
              go_meet
              exact ⟨kc, hkc, GCX, BWX⟩
          case rest =>
            clear HZB hc D1 GCX BWX
            obtain ⟨kc, hkc, gc, BW⟩ := hcut
            have DW := Lib.hid (fun w => digits_ref W w hWB.out)
            have D3 : Hid (∀ w, Calls Tryd.prog 38 #[.int .u64 3] w (RetL 8 3 w)) := Lib.hid fun w => digits_ref 3 w (by decide)
            go_wp2_with fail
            refine (DW.out _).mono ?_
            rintro _ w8 ⟨v8, k8, rfl, hk8, g8, b8⟩
            go_wp2_with fail
            refine (DW.out _).mono ?_
            rintro _ w9 ⟨v9, k9, rfl, hk9, g9, b9⟩
            replace g8 := g8.stays b9
            replace b8 := b8.trans (b9.mono b8.size)
            clear b9
            go_wp2_with fail
            refine (times_ref v8 v9 k8 k9 _ _ _ g8 g9 ⟨by omega, by omega⟩).mono ?_
            rintro _ w10 ⟨v10, rfl, g10, b9⟩
            replace b8 := b8.trans (b9.mono b8.size)
            clear b9 g8 g9
            go_wp2_with fail
            refine (times_ref v10 _ (k8 + k9 + 1) kc _ _ _ g10 (gc.out.stays b8) ⟨by omega, by omega⟩).mono ?_
            rintro _ w11 ⟨v11, rfl, g11, b9⟩
            replace b8 := b8.trans (b9.mono b8.size)
            clear b9 g10
            go_wp2_with fail
            refine (D3.out _).mono ?_
            rintro _ w12 ⟨v12, k12, rfl, hk12, g12, b9⟩
            replace b8 := b8.trans (b9.mono b8.size)
            replace g11 := g11.stays b9
            clear b9
            go_wp2_with fail
            refine (rdiv_posm v11 v12 (k8 + k9 + 1 + kc + 1) k12 _ 3 _ g11 g12 (by omega) ⟨by omega, by omega⟩).mono ?_
            rintro _ w13 ⟨v13, u13, k13, rfl, hk13, g13, _, b9⟩
            replace b8 := b8.trans (b9.mono b8.size)
            rw [hQ.out] at g13
            have BE := Lib.hid (BW.out.trans (b8.mono BW.out.size))
            clear b8 b9 BW gc g11 g12 DW D3 hWB hk13
            have hnq : k8 + k9 + 1 + kc + 1 ≤ 40 := by omega
            generalize k8 + k9 + 1 + kc + 1 = nq at *
            have G13 := Lib.hid g13
            have DN : Hid (∀ w, Calls Tryd.prog 38 #[.int .u64 18446744073709551615] w (RetL 8 18446744073709551615 w)) := Lib.hid fun w => digits_ref 18446744073709551615 w (by decide)
            clear g13 hk8 hk9 hk12 hkc
            go_wp2_with fail
            refine (DN.out _).mono ?_
            rintro _ w14 ⟨v14, k14, rfl, hk14, g14, b9⟩
            have BW := Lib.hid (BE.out.trans (b9.mono BE.out.size))
            have G15 := Lib.hid (G13.out.stays b9)
            clear DN BE G13 b9
            go_wp2_with fail
            refine (less_ref _ v14 _ k14 Q _ _ G15.out g14).mono ?_
            rintro _ w15 ⟨rfl, rfl⟩
            have hg := hG.out
            clear hG g14 hk14
            by_cases hq : Q < 18446744073709551615
            · rw [decide_eq_true hq]
              rw [if_pos hq] at hg
              have HG := Lib.hid hg
              clear hg
              obtain ⟨⟨A16, c16, rfl, hc16, hs⟩, hl, _⟩ := G15.out
              have HL := Lib.hid hl
              have HS := Lib.hid hs
              clear hl hs G15
              go_wp2_with fail
              go_loopw [16, 17] (fun v i wr => ∃ k : Nat, k ≤ nq ∧ i = .int .i64 ((k : Int) - 1) ∧ v = .int .u64 ((Q / 256 ^ k : Nat) : Int) ∧ w14 = wr) (fun _ i _ => (intOf i + 1).toNat)
              case atStart => exact ⟨nq, Nat.le_refl _, rfl, by rw [ends_quo HL.out]; rfl, rfl⟩
              case round =>
                obtain ⟨k, hk, rfl, rfl, rfl⟩ := hrel
                cases k with
                | zero =>
                  rw [Nat.pow_zero, Nat.div_one]
                  have em : max (Q : Int) 200 = (G : Int) := by have := HG.out; omega
                  go_wp2_with fail
                  go_ret
                  exact ⟨rfl, BW.out⟩
                | succ j =>
                  obtain ⟨b, off, rfl, _, hcs⟩ := HS.out (by omega)
                  have c1 := hcs j (by omega)
                  have hst := step_quo Q j
                  have hle : Q / 256 ^ j ≤ Q := Nat.div_le_self _ _
                  have hd := dig_lt Q j
                  generalize Q / 256 ^ (j + 1) = a at *
                  generalize hb : Q / 256 ^ j = b2 at *
                  have HBB := Lib.hid hb
                  clear hb hcs
                  have e1 : ((j + 1 : Nat) : Int) - 1 = (j : Int) := by omega
                  rw [e1]
                  have w1 : IntKind.u64.wrap ((a : Int) * 256) = ((a * 256 : Nat) : Int) := by rw [IntKind.wrap_u64]; omega
                  have w2 : IntKind.u64.wrap ((dig Q j : Nat) : Int) = ((dig Q j : Nat) : Int) := by rw [IntKind.wrap_u64]; omega
                  have w3 : IntKind.u64.wrap (((a * 256 : Nat) : Int) + ((dig Q j : Nat) : Int)) = (b2 : Int) := by rw [IntKind.wrap_u64]; omega
                  generalize dig Q j = d at *
                  have HST := Lib.hid hst
                  clear hst hle e1
                  go_wp2_with fail
                  exact ⟨⟨j, by omega, rfl, by rw [HBB.out]; refine congrArg (Value.int .u64) (Eq.trans (congrArg _ ?_) w3); rw [Int.natCast_mul]; rfl, by first | trivial | rfl⟩, by simp only [intOf]; omega⟩
            · rw [decide_eq_false hq]
              rw [if_neg hq] at hg
              have HG := Lib.hid hg
              clear hg hq
              go_wp2_with fail
              go_ret
              exact ⟨by rw [← HG.out]; rfl, BW.out⟩
end Go.Proofs.YtihefgpicnhdjaaDoor
/- What the document's Gas does; the statement on gas: its walk. -/
namespace Go.Proofs.YtihefgpicnhdjaaDoor
open Go.RowKit SmWord
set_option maxRecDepth 100000

theorem bl_zero_le {x : Nat} (h : x < M) : bl x ≤ 256 := bl_le (by rwa [show M = 2 ^ 256 by decide] at h)
theorem pf_none {f : Nat → Nat} {n at' : Nat} (h : n ≤ at') : pf f n at' = fun _ => 0 := funext fun i => if_neg (by omega)
theorem lenV_small {V : Nat} {w : World} {e : Ending} {w' : World} (h : LenIs V w e w') (hV : V < B) : LenV V true w e w' := by
  obtain ⟨h1, h2⟩ := h
  rw [if_pos hV, decide_eq_true hV] at h1
  exact ⟨h1, h2⟩
theorem lenV_any {V : Nat} {w : World} {e : Ending} {w' : World} (h : LenIs V w e w') : LenV (if V < B then V else 0) (decide (V < B)) w e w' := h
theorem okL_small {V : Nat → Nat} : okL V (B - 1) = true ↔ V 0 < B ∧ V 1 < B ∧ V 2 < B := by
  have : 0 < B := by decide
  unfold okL
  rw [decide_eq_true_iff]
  omega
theorem rgas_walk (A : Option Addr) (n c : Nat) (f : Nat → Nat) (w : World) (hn : n ≤ 100000) (hs : Sl w A n f) :
    Calls Tryd.prog 19 #[.slice A n c] w fun e w' => e = .returned (.int .u64 ((gasN f n : Nat) : Int)) ∧ Below w.heap.size w w' := by
  have hp := pf_lt hs.small
  obtain ⟨V, hVe⟩ : ∃ V, V = fun i => bvl (pf f n (32 * i)) 32 := ⟨_, rfl⟩
  have hG : gasN f n = if V 0 = 0 ∧ V 2 = 0 then 200 else if okL V (B - 1) then
    mg (max (V 0) (V 2)) ((max (bl (bvl (pf f n (96 + V 0)) (min (V 1) 32))) 1 - 1) + (if 32 < V 1 then (V 1 - 32) * 8 else 0)) else 18446744073709551615 := by rw [hVe]; rfl
  have HLen : ∀ k : Nat, k ≤ 2 → ∀ w', Below w.heap.size w w' → Calls Tryd.prog 12 #[.slice A n c, .int .i64 (k : Int)] w' (LenIs (V k) w') := fun k hk w' hb => by
    rw [hVe]
    exact rlen_walk A n c k f w' hn hk (hs.below hb)
  clear hVe
  have HL0 := HLen 0 (by omega) w (Below.refl _ _)
  have HL1 := HLen 1 (by omega)
  have HL2 := HLen 2 (by omega)
  have hB0 : (0 : Nat) < B := by decide
  by_cases hz : V 0 = 0 ∧ V 2 = 0
  · rw [hG, if_pos hz]
    refine rgas_bad A n c 200 0 (if V 1 < B then V 1 else 0) 0 true (decide (V 1 < B)) true w (Lib.hid (HL0.mono fun e w' h => ?_)) (Lib.hid fun w' hb => (HL1 w' hb).mono fun e w'' h => lenV_any h) (Lib.hid fun w' hb => (HL2 w' hb).mono fun e w'' h => ?_) (Lib.hid (.inl ⟨rfl, rfl, rfl, rfl, rfl⟩))
    · rw [hz.1] at h
      exact lenV_small h hB0
    · rw [hz.2] at h
      exact lenV_small h hB0
  rw [hG, if_neg hz]
  by_cases hok : V 0 < B ∧ V 1 < B ∧ V 2 < B
  · rw [if_pos (okL_small.2 hok)]
    obtain ⟨h0, h1, h2⟩ := hok
    have hbh : bvl (pf f n (96 + V 0)) (min (V 1) 32) < M := bvl_wordlt (fun j _ => hp _ j) (by omega)
    have hbl := bl_zero_le hbh
    have hH0 : ¬ V 0 < 1099511627776 → bvl (pf f n (96 + V 0)) (min (V 1) 32) = 0 := fun h => by
      rw [pf_none (by omega), bvl_zero]
    have hb0 : V 0 < 18446744073709551616 := h0
    have hb1 : V 1 < 18446744073709551616 := h1
    have hb2 : V 2 < 18446744073709551616 := h2
    have hT : max (bl (bvl (pf f n (96 + V 0)) (min (V 1) 32))) 1 - 1 = bl (bvl (pf f n (96 + V 0)) (min (V 1) 32)) - 1 := by omega
    rw [hT]
    have HP : V 0 < 1099511627776 → ∀ w', Below w.heap.size w w' → Calls Tryd.prog 20 #[.slice A n c, .int .i64 ((96 + V 0 : Nat) : Int), .int .i64 ((min (V 1) 32 : Nat) : Int)] w' (RetB (min (V 1) 32) (pf f n (96 + V 0)) w') := fun h w' hb =>
      rpart_walk A n c (96 + V 0) (min (V 1) 32) f w' hn (by omega) (by omega) (hs.below hb)
    generalize hHe : bvl (pf f n (96 + V 0)) (min (V 1) 32) = H at *
    have hTB : bl H - 1 < B := Nat.lt_of_le_of_lt (show bl H - 1 ≤ 256 by omega) (by decide)
    have hW : (if max (V 0) (V 2) % 8 = 0 then max (V 0) (V 2) / 8 else max (V 0) (V 2) / 8 + 1) = (max (V 0) (V 2) + 7) / 8 := by split <;> omega
    have hWB : (max (V 0) (V 2) + 7) / 8 < B := by simp only [B]; omega
    refine rgas_near A n c _ (V 0) (V 1) (V 2) (min (V 1) 32) H (bl H - 1) (max (V 0) (V 2)) (max (V 0) (V 2) / 8) (max (V 0) (V 2) % 8) ((max (V 0) (V 2) + 7) / 8) (bl H - 1 + (if 32 < V 1 then (V 1 - 32) * 8 else 0)) (if bl H - 1 + (if 32 < V 1 then (V 1 - 32) * 8 else 0) = 0 then 1 else bl H - 1 + (if 32 < V 1 then (V 1 - 32) * 8 else 0)) _ (96 + V 0) (pf f n (96 + V 0)) w hb0 hb1 hb2
      (Lib.hid (HL0.mono fun e w' h => lenV_small h h0)) (Lib.hid fun w' hb => (HL1 w' hb).mono fun e w'' h => lenV_small h h1) (Lib.hid fun w' hb => (HL2 w' hb).mono fun e w'' h => lenV_small h h2)
      (Lib.hid hz) (by omega) (Lib.hid rfl) (Lib.hid HP) (Lib.hid fun _ => hHe) (Lib.hid fun h => (hH0 h)) (Lib.hid rfl) (Lib.hid hTB) (by omega) (Lib.hid rfl) (Lib.hid rfl) (Lib.hid hW) (Lib.hid hWB) (Lib.hid rfl) (Lib.hid rfl) (Lib.hid rfl) (Lib.hid ?_)
    unfold mg
    generalize (max (V 0) (V 2) + 7) / 8 * ((max (V 0) (V 2) + 7) / 8) * (if bl H - 1 + (if 32 < V 1 then (V 1 - 32) * 8 else 0) = 0 then 1 else bl H - 1 + (if 32 < V 1 then (V 1 - 32) * 8 else 0)) / 3 = Q
    simp only [B]
    by_cases hq : Q < 18446744073709551615
    · rw [if_pos hq, if_pos (by omega)]
    · rw [if_neg hq]
      by_cases hq2 : Q < 18446744073709551616
      · rw [if_pos hq2]; omega
      · rw [if_neg hq2]
  · rw [if_neg (fun h => hok (okL_small.1 h))]
    refine rgas_bad A n c _ (if V 0 < B then V 0 else 0) (if V 1 < B then V 1 else 0) (if V 2 < B then V 2 else 0) (decide (V 0 < B)) (decide (V 1 < B)) (decide (V 2 < B)) w (Lib.hid (HL0.mono fun e w' h => lenV_any h)) (Lib.hid fun w' hb => (HL1 w' hb).mono fun e w'' h => lenV_any h) (Lib.hid fun w' hb => (HL2 w' hb).mono fun e w'' h => lenV_any h) (Lib.hid ?_)
    by_cases a0 : V 0 < B
    · by_cases a2 : V 2 < B
      · have a1 : ¬ V 1 < B := fun h => hok ⟨a0, h, a2⟩
        rw [if_pos a0, if_pos a2, decide_eq_true a0, decide_eq_true a2, decide_eq_false a1]
        by_cases z : V 0 = 0
        · exact .inr (.inr (.inr (.inr ⟨rfl, rfl, rfl, z, fun h => hz ⟨z, h⟩, rfl⟩)))
        · exact .inr (.inr (.inr (.inl ⟨rfl, rfl, rfl, z, rfl⟩)))
      · rw [decide_eq_true a0, decide_eq_false a2]
        exact .inr (.inr (.inl ⟨rfl, rfl, rfl⟩))
    · rw [decide_eq_false a0]
      exact .inr (.inl ⟨rfl, rfl⟩)

end Go.Proofs.YtihefgpicnhdjaaDoor
/- What the function Run of package modexp does. -/
namespace Go.Proofs.YtihefgpicnhdjaaDoor
open Go.RowKit SmWord
set_option maxRecDepth 100000

/-- What answers a power, new bytes or not. -/
def PowSl (n V : Nat) (w : World) (e : Ending) (w' : World) : Prop := ∃ A, e = .returned (.tuple #[.slice A n n, .int .i64 0]) ∧ (A = none → n = 0 ∧ n = 0) ∧ Sl w' A n (fun i => dig V (n - 1 - i)) ∧ Below w.heap.size w w'
set_option maxHeartbeats 4000000 in
theorem run_none (A : Option Addr) (n c : Nat) (V : Nat → Nat) (w : World)
    (HL : Hid (Calls Tryd.prog 26 #[.slice A n c] w fun e w' => e = .returned (.agg (ww V)) ∧ Below w.heap.size w w'))
    (HN : Hid (∀ w, Calls Tryd.prog 27 #[.agg (ww V)] w fun e w' => e = .returned (.bool true) ∧ Below w.heap.size w w')) :
    Calls Tryd.prog 22 #[.slice A n c] w fun e w' => e = .returned (.tuple #[.slice none 0 0, .int .i64 0]) ∧ Below w.heap.size w w' := by
  go_enter Tryd.func22, Tryd.ntmps22
  go_wp2_with fail
  refine (HL.out).mono ?_
  rintro _ w1 ⟨rfl, b1⟩
  go_upto_region 2 with (first | (refine wpList_alloc_row rfl 56 rfl zX zX_run ?_) | (refine wpList_store_row rfl 56 (.tmp 4) _ rfl _ zX (ww V) rfl rfl (heap_alloc_new _ _) (infoX _) rfl (arr_one _ _ _) ?_))
  rw [World.setRow_alloc_new]
  simp only [Act.put, List.setIfInBounds_toArray, List.set_cons_succ, List.set_cons_zero]
  have f3 : (w1.alloc (.cells (ww V) 56)).heap[w1.heap.size]? = some (.cells (ww V) 56) := heap_alloc_new _ _
  have bW : Below w.heap.size w (w1.alloc (.cells (ww V) 56)) := b1.alloc b1.size _
  clear b1 HL
  generalize w1.alloc (.cells (ww V) 56) = w2 at *
  generalize w1.heap.size = b3 at *
  go_wp2_with (refine wpList_load_row rfl 56 _ rfl _ rfl 56 (ww V) (0, 0) _ f3 Tryd.underlying56 rfl (infoX _) ?_)
  refine (HN.out _).mono ?_
  rintro _ w3 ⟨rfl, b1⟩
  replace bW := bW.trans (b1.mono bW.size)
  clear b1 HN f3
  go_wp2_with fail
  go_ret2
  exact ⟨rfl, bW⟩
set_option maxHeartbeats 4000000 in
theorem run_long (A : Option Addr) (n c : Nat) (V : Nat → Nat) (w : World)
    (HL : Hid (Calls Tryd.prog 26 #[.slice A n c] w fun e w' => e = .returned (.agg (ww V)) ∧ Below w.heap.size w w'))
    (HN : Hid (∀ w, Calls Tryd.prog 27 #[.agg (ww V)] w fun e w' => e = .returned (.bool false) ∧ Below w.heap.size w w'))
    (HU : Hid (∀ w, Calls Tryd.prog 28 #[.agg (ww V), .int .u64 64] w fun e w' => e = .returned (.tuple #[.agg zY3, .bool false]) ∧ Below w.heap.size w w')) :
    Calls Tryd.prog 22 #[.slice A n c] w fun e w' => e = .returned (.tuple #[.slice none 0 0, .int .i64 4]) ∧ Below w.heap.size w w' := by
  go_enter Tryd.func22, Tryd.ntmps22
  go_wp2_with fail
  refine (HL.out).mono ?_
  rintro _ w1 ⟨rfl, b1⟩
  go_upto_region 2 with (first | (refine wpList_alloc_row rfl 56 rfl zX zX_run ?_) | (refine wpList_store_row rfl 56 (.tmp 4) _ rfl _ zX (ww V) rfl rfl (heap_alloc_new _ _) (infoX _) rfl (arr_one _ _ _) ?_))
  rw [World.setRow_alloc_new]
  simp only [Act.put, List.setIfInBounds_toArray, List.set_cons_succ, List.set_cons_zero]
  have f3 : (w1.alloc (.cells (ww V) 56)).heap[w1.heap.size]? = some (.cells (ww V) 56) := heap_alloc_new _ _
  have bW : Below w.heap.size w (w1.alloc (.cells (ww V) 56)) := b1.alloc b1.size _
  clear b1 HL
  generalize w1.alloc (.cells (ww V) 56) = w2 at *
  generalize w1.heap.size = b3 at *
  go_wp2_with (refine wpList_load_row rfl 56 _ rfl _ rfl 56 (ww V) (0, 0) _ f3 Tryd.underlying56 rfl (infoX _) ?_)
  refine (HN.out _).mono ?_
  rintro _ w3 ⟨rfl, b1⟩
  replace f3 := Below.stays b1 f3
  replace bW := bW.trans (b1.mono bW.size)
  clear b1 HN
  go_wp2_with (refine wpList_load_row rfl 56 _ rfl _ rfl 56 (ww V) (0, 0) _ f3 Tryd.underlying56 rfl (infoX _) ?_)
  refine (HU.out _).mono ?_
  rintro _ w4 ⟨rfl, b1⟩
  replace bW := bW.trans (b1.mono bW.size)
  clear b1 HU f3
  go_wp2_with (first | (refine wpList_alloc_row rfl 59 rfl zY3 zY3_run ?_) | (refine wpList_store_row rfl 59 (.tmp 5) _ rfl _ zY3 zY3 rfl rfl (heap_alloc_new _ _) (infoY3 _) rfl (arr_one _ _ _) ?_))
  rw [World.setRow_alloc_new]
  go_ret2
  exact ⟨rfl, bW.alloc bW.size _⟩
set_option maxHeartbeats 4000000 in
theorem run_near (A : Option Addr) (n c x0 x1 x2 x3 q R : Nat) (V g0 g1 g2 g3 : Nat → Nat) (w : World)
    (h0 : V 0 = x0) (h1 : V 1 = x1) (h2 : V 2 = x2) (l0 : x0 ≤ 64) (l1 : x1 ≤ 64) (l2 : x2 ≤ 64) (h3 : x0 + x1 = x3)
    (HBeh : Hid (∀ w', Below w.heap.size w w' → Calls Tryd.prog 30 #[.slice A n c] w' fun e w'' => (∃ A' c', e = .returned (.slice A' q c') ∧ q ≤ c' ∧ Sl w' A' q g0) ∧ w' = w''))
    (HP1 : Hid (∀ w' A' c', q ≤ c' → Sl w' A' q g0 → Calls Tryd.prog 29 #[.slice A' q c', .int .u64 0, .int .i64 (x0 : Int)] w' (RetB x0 g1 w')))
    (HP2 : Hid (∀ w' A' c', q ≤ c' → Sl w' A' q g0 → Calls Tryd.prog 29 #[.slice A' q c', .int .u64 (x0 : Int), .int .i64 (x1 : Int)] w' (RetB x1 g2 w')))
    (HP3 : Hid (∀ w' A' c', q ≤ c' → Sl w' A' q g0 → Calls Tryd.prog 29 #[.slice A' q c', .int .u64 (x3 : Int), .int .i64 (x2 : Int)] w' (RetB x2 g3 w')))
    (HPow : Hid (∀ w' A1 A2 A3 c1 c2 c3, Sl w' A1 x0 g1 → Sl w' A2 x1 g2 → Sl w' A3 x2 g3 → Calls Tryd.prog 46 #[.slice A1 x0 c1, .slice A2 x1 c2, .slice A3 x2 c3] w' (PowIs x2 R w')))
    (HL : Hid (Calls Tryd.prog 26 #[.slice A n c] w fun e w' => e = .returned (.agg (ww V)) ∧ Below w.heap.size w w'))
    (HN : Hid (∀ w, Calls Tryd.prog 27 #[.agg (ww V)] w fun e w' => e = .returned (.bool false) ∧ Below w.heap.size w w'))
    (HU : Hid (∀ w, Calls Tryd.prog 28 #[.agg (ww V), .int .u64 64] w fun e w' => e = .returned (.tuple #[.agg (ua 3 V), .bool true]) ∧ Below w.heap.size w w')) :
    Calls Tryd.prog 22 #[.slice A n c] w (PowSl x2 R w) := by
  go_enter Tryd.func22, Tryd.ntmps22
  go_wp2_with fail
  refine (HL.out).mono ?_
  rintro _ w1 ⟨rfl, b1⟩
  go_upto_region 2 with (first | (refine wpList_alloc_row rfl 56 rfl zX zX_run ?_) | (refine wpList_store_row rfl 56 (.tmp 4) _ rfl _ zX (ww V) rfl rfl (heap_alloc_new _ _) (infoX _) rfl (arr_one _ _ _) ?_))
  rw [World.setRow_alloc_new]
  simp only [Act.put, List.setIfInBounds_toArray, List.set_cons_succ, List.set_cons_zero]
  have f3 : (w1.alloc (.cells (ww V) 56)).heap[w1.heap.size]? = some (.cells (ww V) 56) := heap_alloc_new _ _
  have bW : Below w.heap.size w (w1.alloc (.cells (ww V) 56)) := b1.alloc b1.size _
  clear b1 HL
  generalize w1.alloc (.cells (ww V) 56) = w2 at *
  generalize w1.heap.size = b3 at *
  go_wp2_with (refine wpList_load_row rfl 56 _ rfl _ rfl 56 (ww V) (0, 0) _ f3 Tryd.underlying56 rfl (infoX _) ?_)
  refine (HN.out _).mono ?_
  rintro _ w3 ⟨rfl, b1⟩
  replace f3 := Below.stays b1 f3
  replace bW := bW.trans (b1.mono bW.size)
  clear b1 HN
  go_wp2_with (refine wpList_load_row rfl 56 _ rfl _ rfl 56 (ww V) (0, 0) _ f3 Tryd.underlying56 rfl (infoX _) ?_)
  refine (HU.out _).mono ?_
  rintro _ w4 ⟨rfl, b1⟩
  replace bW := bW.trans (b1.mono bW.size)
  clear b1 HU f3
  go_upto_region 5 with (first | (refine wpList_alloc_row rfl 59 rfl zY3 zY3_run ?_) | (refine wpList_store_row rfl 59 (.tmp 5) _ rfl _ zY3 (ua 3 V) rfl rfl (heap_alloc_new _ _) (infoY3 _) rfl (arr_one _ _ _) ?_))
  rw [World.setRow_alloc_new]
  have f4 : (w4.alloc (.cells (ua 3 V) 59)).heap[w4.heap.size]? = some (.cells (ua 3 V) 59) := heap_alloc_new _ _
  replace bW : Below w.heap.size w (w4.alloc (.cells (ua 3 V) 59)) := bW.alloc bW.size _
  generalize w4.alloc (.cells (ua 3 V) 59) = w5 at *
  generalize w4.heap.size = b4 at *
  have HF := Lib.hid f4
  have BW := Lib.hid bW
  have cell : ∀ w' : World, w'.heap[b4]? = some (.cells (ua 3 V) 59) → w'.cell? ⟨b4, 0, none⟩ = some (.int .u64 (x0 : Int)) ∧ w'.cell? ⟨b4, 1, none⟩ = some (.int .u64 (x1 : Int)) ∧ w'.cell? ⟨b4, 2, none⟩ = some (.int .u64 (x2 : Int)) := fun w' hw => by
    rw [← h0, ← h1, ← h2]
    exact ⟨blk_cell hw (ua_get V (show 0 < 3 by omega)), blk_cell hw (ua_get V (show 1 < 3 by omega)), blk_cell hw (ua_get V (show 2 < 3 by omega))⟩
  have HC := Lib.hid cell
  clear h0 h1 h2 bW f4 cell
  go_wp2_with fail
  refine (HBeh.out _ BW.out).mono ?_
  rintro _ w6 ⟨⟨A1, k1, rfl, hqc, hs1⟩, rfl⟩
  have HS := Lib.hid hs1
  have HQ := Lib.hid hqc
  clear HBeh hs1 hqc
  have wk0 : IntKind.i64.wrap (x0 : Int) = (x0 : Int) := by rw [IntKind.wrap_i64]; omega
  have wk1 : IntKind.i64.wrap (x1 : Int) = (x1 : Int) := by rw [IntKind.wrap_i64]; omega
  have wk2 : IntKind.i64.wrap (x2 : Int) = (x2 : Int) := by rw [IntKind.wrap_i64]; omega
  have wk3 : (x0 : Int) + (x1 : Int) = (x3 : Int) := by omega
  have wk4 : IntKind.u64.wrap (x3 : Int) = (x3 : Int) := by rw [IntKind.wrap_u64]; omega
  clear h3
  have HP := Lib.hid (HP1.out _ A1 k1 HQ.out HS.out)
  obtain ⟨cc, _, _⟩ := HC.out _ HF.out
  clear HP1
  go_wp2_with fail
  refine (HP.out).mono ?_
  rintro _ w7 ⟨A2, k2, rfl, _, _, hs2, b1⟩
  have HS2 := Lib.hid hs2
  have HF2 := Lib.hid (Below.stays b1 HF.out)
  have BW2 := Lib.hid (BW.out.trans (b1.mono BW.out.size))
  have HSA := Lib.hid (HS.out.below b1)
  clear HP hs2 b1 cc HF BW HS
  have HP := Lib.hid (HP2.out _ A1 k1 HQ.out HSA.out)
  obtain ⟨cc, cd, _⟩ := HC.out _ HF2.out
  clear HP2
  go_wp2_with fail
  refine (HP.out).mono ?_
  rintro _ w8 ⟨A3, k3, rfl, _, _, hs3, b1⟩
  have HS3 := Lib.hid hs3
  have HF := Lib.hid (Below.stays b1 HF2.out)
  have BW := Lib.hid (BW2.out.trans (b1.mono BW2.out.size))
  have HS := Lib.hid (HSA.out.below b1)
  have HSB := Lib.hid (HS2.out.below b1)
  clear HP hs3 b1 cc cd HF2 BW2 HSA HS2
  have HP := Lib.hid (HP3.out _ A1 k1 HQ.out HS.out)
  obtain ⟨cc, cd, ce⟩ := HC.out _ HF.out
  clear HP3 HC
  go_wp2_with fail
  refine (HP.out).mono ?_
  rintro _ w9 ⟨A4, k4, rfl, _, _, hs4, b1⟩
  have BW2 := Lib.hid (BW.out.trans (b1.mono BW.out.size))
  have HO := Lib.hid (HPow.out _ A2 A3 A4 k2 k3 k4 (HSB.out.below b1) (HS3.out.below b1) hs4)
  clear HP hs4 b1 cc cd ce HF BW HPow HSB HS3 HS
  go_wp2_with fail
  refine (HO.out).mono ?_
  intro _ w10 hp
  obtain ⟨A5, rfl, ha, hs5, b1⟩ := powIs_sl hp
  have HA5 := Lib.hid ha
  have HS5 := Lib.hid hs5
  have BW := Lib.hid (BW2.out.trans (b1.mono BW2.out.size))
  clear HO hp ha hs5 b1 BW2
  go_wp2_with fail
  go_ret2
  exact ⟨A5, rfl, HA5.out, HS5.out, BW.out⟩
/-- What an input asks for. -/
def askV (f : Nat → Nat) (n i : Nat) : Nat := bvl (pf f n (32 * i)) 32
theorem pf_behind {f : Nat → Nat} {n a : Nat} : pf (fun i => f (min n 96 + i)) (n - min n 96) a = pf f n (96 + a) := funext fun i => by
  unfold pf
  by_cases h96 : 96 ≤ n
  · rw [show min n 96 = 96 by omega]
    by_cases hlt : 96 + a + i < n
    · rw [if_pos hlt, if_pos (by omega)]
      exact congrArg f (by omega)
    · rw [if_neg hlt, if_neg (by omega)]
  · rw [if_neg (by omega), if_neg (by omega)]
theorem askV_lt {f : Nat → Nat} {n : Nat} (h : ∀ i, i < n → f i < 256) (i : Nat) : askV f n i < M := bvl_wordlt (fun j _ => pf_lt h _ j) (Nat.le_refl _)
section
variable (A : Option Addr) (n c : Nat) (f : Nat → Nat) (w : World) (hn : n ≤ 100000) (hnc : n ≤ c) (hA : A = none → n = 0 ∧ c = 0) (hs : Sl w A n f)
include hn hnc hs
theorem run_lengths : Calls Tryd.prog 26 #[.slice A n c] w fun e w' => e = .returned (.agg (ww (askV f n))) ∧ Below w.heap.size w w' := lengths_walk A n c f w hn hnc hs
omit hn hnc in
theorem run_room (w : World) : Calls Tryd.prog 27 #[.agg (ww (askV f n))] w fun e w' => e = .returned (.bool (decide (askV f n 0 = 0 ∧ askV f n 2 = 0))) ∧ Below w.heap.size w w' := by
  have := noRoom_walk (askV f n) _ w (Lib.hid fun w => or_wd (askV f n 0) (askV f n 2) w)
  rw [show decide ((num (l0 (askV f n 0) ||| l0 (askV f n 2)) (l1 (askV f n 0) ||| l1 (askV f n 2)) (l2 (askV f n 0) ||| l2 (askV f n 2)) (l3 (askV f n 0) ||| l3 (askV f n 2))) % M = 0) = decide (askV f n 0 = 0 ∧ askV f n 2 = 0) from decide_eq_decide.2 (or_zero_iff _ _ (askV_lt hs.small 0) (askV_lt hs.small 2))] at this
  exact this
theorem run_is_none (hz : askV f n 0 = 0 ∧ askV f n 2 = 0) : Calls Tryd.prog 22 #[.slice A n c] w fun e w' => e = .returned (.tuple #[.slice none 0 0, .int .i64 0]) ∧ Below w.heap.size w w' :=
  run_none A n c _ w (Lib.hid (run_lengths A n c f w hn hnc hs)) (Lib.hid fun w' => by
    have := run_room A n f w hs w'
    rwa [decide_eq_true hz] at this)
theorem run_is_long (hz : ¬ (askV f n 0 = 0 ∧ askV f n 2 = 0)) (hk : okL (askV f n) 64 = false) : Calls Tryd.prog 22 #[.slice A n c] w fun e w' => e = .returned (.tuple #[.slice none 0 0, .int .i64 4]) ∧ Below w.heap.size w w' :=
  run_long A n c _ w (Lib.hid (run_lengths A n c f w hn hnc hs)) (Lib.hid fun w' => by
    have := run_room A n f w hs w'
    rwa [decide_eq_false hz] at this) (Lib.hid fun w' => by
    have := upTo_walk (askV f n) 64 w' (askV_lt hs.small) (by decide)
    rwa [hk] at this)
include hA
theorem run_is_near (hz : ¬ (askV f n 0 = 0 ∧ askV f n 2 = 0)) (hk : okL (askV f n) 64 = true) : Calls Tryd.prog 22 #[.slice A n c] w
    (PowSl (askV f n 2) (pw (bvl (pf f n 96) (askV f n 0)) (bvl (pf f n (96 + askV f n 0)) (askV f n 1)) (bvl (pf f n (96 + (askV f n 0 + askV f n 1))) (askV f n 2))) w) := by
  have hall := (okL_iff (askV f n) 64).1 hk
  have l0 := hall 0 (by omega)
  have l1 := hall 1 (by omega)
  have l2 := hall 2 (by omega)
  have HR := run_room A n f w hs
  rw [decide_eq_false hz] at HR
  have HU := fun w' => upTo_walk (askV f n) 64 w' (askV_lt hs.small) (by decide)
  rw [hk] at HU
  have HL := run_lengths A n c f w hn hnc hs
  clear hk hz hall
  generalize h0 : askV f n 0 = x0 at *
  generalize h1 : askV f n 1 = x1 at *
  generalize h2 : askV f n 2 = x2 at *
  have HP : ∀ at' m, at' ≤ 128 → m ≤ 64 → ∀ w' A' c', n - min n 96 ≤ c' → Sl w' A' (n - min n 96) (fun i => f (min n 96 + i)) → Calls Tryd.prog 29 #[.slice A' (n - min n 96) c', .int .u64 ((at' : Nat) : Int), .int .i64 ((m : Nat) : Int)] w' (RetB m (pf f n (96 + at')) w') := fun at' m ha hm w' A' c' hq hS => by
    have h := part_walk A' (n - min n 96) c' at' m (fun i => f (min n 96 + i)) w' (by omega) (by omega) (by simp only [B]; omega) hq hS
    rwa [pf_behind] at h
  exact run_near A n c x0 x1 x2 (x0 + x1) (n - min n 96) _ (askV f n) (fun i => f (min n 96 + i)) (pf f n 96) (pf f n (96 + x0)) (pf f n (96 + (x0 + x1))) w h0 h1 h2 l0 l1 l2 rfl
    (Lib.hid fun w' hb => behind_walk A n c (min n 96) f w' hn hnc (hs.below hb) hA (by omega)) (Lib.hid (HP 0 x0 (by omega) l0)) (Lib.hid (HP x0 x1 (by omega) l1)) (Lib.hid (HP (x0 + x1) x2 (by omega) l2))
    (Lib.hid fun w' A1 A2 A3 c1 c2 c3 s1 s2 s3 => pow_walk x0 x1 x2 c1 c2 c3 A1 A2 A3 _ _ _ w' l0 l1 l2 s1 s2 s3) (Lib.hid HL) (Lib.hid HR) (Lib.hid HU)
end
end Go.Proofs.YtihefgpicnhdjaaDoor
