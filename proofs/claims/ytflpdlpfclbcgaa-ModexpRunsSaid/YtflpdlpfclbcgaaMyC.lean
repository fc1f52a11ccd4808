/- What the document's Length, top and digits do. -/
import Derived.Test.YtflpdlpfclbcgaaMyB
namespace Go.Proofs.Ytflpdlpfclbcgaa
open Go.RowKit SmWord
set_option maxRecDepth 100000

theorem bvl_noughts {F : Nat → Nat} : ∀ j, (∀ x, x < j → F x = 0) → bvl F j = 0 := fun j => by
  induction j with
  | zero => intro _; rfl
  | succ j ih =>
    intro h
    rw [bvl_succ, ih (fun x hx => h x (by omega)), h j (by omega)]
theorem len_low {F : Nat → Nat} (hF : ∀ i, F i < 256) : ∀ j, (∀ x, x < j → x < 24 → F x = 0) → bvl F j < 256 ^ (j - 24) := fun j => by
  induction j with
  | zero => intro _; exact Nat.pow_pos (n := 0 - 24) (by decide)
  | succ j ih =>
    intro h
    have h1 := ih fun x hx => h x (by omega)
    rw [bvl_succ]
    by_cases hj : j < 24
    · rw [show j - 24 = 0 by omega, Nat.pow_zero] at h1
      rw [show j + 1 - 24 = 0 by omega, Nat.pow_zero, h j (by omega) hj]
      omega
    · rw [show j + 1 - 24 = j - 24 + 1 by omega, Nat.pow_succ]
      have := hF j
      generalize 256 ^ (j - 24) = p at *
      generalize bvl F j = v at *
      omega
theorem len_high {F : Nat → Nat} {j : Nat} (h : F j ≠ 0) : ∀ r, 256 ^ r ≤ bvl F (j + 1 + r) := fun r => by
  induction r with
  | zero => rw [Nat.add_zero, bvl_succ, Nat.pow_zero]; omega
  | succ r ih =>
    rw [← Nat.add_assoc, bvl_succ, Nat.pow_succ]
    generalize 256 ^ r = p at *
    generalize bvl F (j + 1 + r) = v at *
    omega
theorem len_pow {j : Nat} (hj : j ≤ 32) : 256 ^ (j - 24) ≤ 18446744073709551616 :=
  Nat.le_trans (Nat.pow_le_pow_right (by decide) (show j - 24 ≤ 8 by omega)) (by decide)
theorem len_far {F : Nat → Nat} {j : Nat} (hj : j < 24) (h : F j ≠ 0) : B ≤ bvl F 32 := by
  have h1 := len_high h (31 - j)
  rw [show j + 1 + (31 - j) = 32 by omega] at h1
  exact Nat.le_trans (Nat.le_trans (show B ≤ 256 ^ 8 by decide) (Nat.pow_le_pow_right (by decide) (by omega))) h1
/-- One of the three lengths, and whether it is below 2^64. -/
def LenIs (V : Nat) (w : World) (e : Ending) (w' : World) : Prop := e = .returned (.tuple #[.int .u64 ((if V < B then V else 0 : Nat) : Int), .bool (decide (V < B))]) ∧ Below w.heap.size w w'
set_option maxHeartbeats 2000000 in
theorem rlen_walk (A : Option Addr) (n c k : Nat) (f : Nat → Nat) (w : World) (hn : n ≤ 100000) (hk : k ≤ 2) (hs : Sl w A n f) :
    Calls Try.prog 20 #[.slice A n c, .int .i64 (k : Int)] w (LenIs (bvl (pf f n (32 * k)) 32) w) := by
  have HP := Lib.hid (rpart_walk A n c (32 * k) 32 f w hn (by decide) (by omega) hs)
  have hF := pf_lt hs.small (32 * k)
  obtain ⟨F, hFe⟩ : ∃ F, F = pf f n (32 * k) := ⟨_, rfl⟩
  rw [← hFe] at hF HP ⊢
  have w1 : 32 * (k : Int) = ((32 * k : Nat) : Int) := by omega
  have w2 : IntKind.i64.wrap ((32 * k : Nat) : Int) = ((32 * k : Nat) : Int) := by rw [IntKind.wrap_i64]; omega
  clear hs hFe hn
  obtain ⟨q, hq⟩ : ∃ q, q = 32 * k := ⟨_, rfl⟩
  rw [← hq] at w1 w2 HP
  clear hq
  go_enter Try.func20, Try.ntmps20
  go_wp2_with fail
  refine (HP.out).mono ?_
  rintro _ w3 ⟨A1, c1, rfl, _, _, hs1, b1⟩
  have HF := Lib.hid hF
  clear HP hF w1 w2
  go_wp2_with fail
  go_loopw [7, 8] (fun v i wr => ∃ j : Nat, j ≤ 32 ∧ i = .int .i64 (j : Int) ∧ v = .int .u64 ((bvl F j : Nat) : Int) ∧ Hid (∀ x, x < j → x < 24 → F x = 0) ∧ w3 = wr) (fun _ i _ => 32 - (intOf i).toNat)
  case atStart => exact ⟨0, by omega, rfl, rfl, Lib.hid (fun x hx => by omega), rfl⟩
  case round =>
    obtain ⟨j, hj, rfl, rfl, hz, rfl⟩ := hrel
    by_cases hlt : j < 32
    · obtain ⟨b, off, rfl, hbl, hc⟩ := hs1.cells (by omega)
      have c1 := hc j hlt
      have hf := HF.out j
      have HC := Lib.hid hs1
      have hlow := len_low HF.out j hz.out
      have hpw := len_pow (Nat.le_of_lt hlt)
      have hb64 : bvl F j < 18446744073709551616 := Nat.lt_of_lt_of_le hlow hpw
      by_cases h24 : j < 24
      · by_cases hne : F j = 0
        · have hz' : Hid (∀ x, x < j + 1 → x < 24 → F x = 0) := Lib.hid fun x hx h => by
            by_cases e : x = j
            · rw [e]; exact hne
            · exact hz.out x (by omega) h
          have hv : bvl F (j + 1) = 0 := bvl_noughts _ fun x hx => hz'.out x hx (by omega)
          have hv0 : bvl F j = 0 := bvl_noughts _ fun x hx => hz.out x hx (by omega)
          have HV := Lib.hid hv
          rw [hne] at c1
          rw [hv0]
          clear hc hs1 hbl hz hlow hpw hb64 hv hv0 hf hne
          go_wp2_with fail
          exact ⟨⟨j + 1, by omega, by go_num, by rw [HV.out]; rfl, hz', by first | trivial | rfl⟩, by simp only [intOf]; omega⟩
        · have hfar := len_far h24 hne
          have HFar := Lib.hid hfar
          have hne' : (((F j : Nat) : Int) == 0) = false := by rw [beq_eq_false_iff_ne]; omega
          clear hc hs1 hbl hz hlow hpw hb64 hfar
          go_wp2_with fail
          go_ret2
          refine ⟨?_, b1⟩
          rw [if_neg (by have := HFar.out; omega), decide_eq_false (by have := HFar.out; omega)]
          rfl
      · have hz' : Hid (∀ x, x < j + 1 → x < 24 → F x = 0) := Lib.hid fun x hx h => hz.out x (by omega) h
        have hlow' := Nat.lt_of_lt_of_le (len_low HF.out (j + 1) hz'.out) (len_pow (j := j + 1) (by omega))
        rw [bvl_succ] at hlow'
        have hv := bvl_succ F j
        have HV := Lib.hid hv
        have wm : IntKind.u64.wrap (((bvl F j : Nat) : Int) * 256) = ((bvl F j * 256 : Nat) : Int) := by rw [IntKind.wrap_u64]; omega
        have wf : IntKind.u64.wrap ((F j : Nat) : Int) = ((F j : Nat) : Int) := by rw [IntKind.wrap_u64]; omega
        have wa : IntKind.u64.wrap (((bvl F j * 256 : Nat) : Int) + ((F j : Nat) : Int)) = ((bvl F j * 256 + F j : Nat) : Int) := by rw [IntKind.wrap_u64]; omega
        clear hc hs1 hbl hz hlow hpw hv
        generalize bvl F j = v at *
        go_wp2_with fail
        exact ⟨⟨j + 1, by omega, by go_num, by rw [HV.out]; first | rfl | (congr 1; omega), hz', by first | trivial | rfl⟩, by simp only [intOf]; omega⟩
    · obtain rfl : j = 32 := by omega
      have hlow := Nat.lt_of_lt_of_le (len_low HF.out 32 hz.out) (len_pow (Nat.le_refl _))
      have HV : Hid (bvl F 32 < B) := Lib.hid (by simp only [B]; exact hlow)
      clear hlow
      go_wp2_with fail
      go_ret2
      refine ⟨?_, b1⟩
      rw [if_pos HV.out, decide_eq_true HV.out]
      rfl
set_option maxHeartbeats 1000000 in
theorem digits_ref (X : Nat) (w : World) (hX : X < B) : Calls Try.prog 41 #[.int .u64 (X : Int)] w (RetL 8 X w) := by
  obtain ⟨i0, hi, hz0, hz1, hz2⟩ := info_parts Try.info3
  have hX8 : X < 256 ^ 8 := hX
  have HX := Lib.hid hX8
  have hX64 : X < 18446744073709551616 := hX
  clear hX hX8
  go_enter Try.func41, Try.ntmps41
  go_wp2_with fail
  go_loopw [0, 3] (fun x v wr => ∃ k : Nat, k ≤ 8 ∧ x = .int .u64 ((X / 256 ^ k : Nat) : Int) ∧ wr.ownsRow w.heap.size 3 1 v k (dg X k) ∧ Below w.heap.size w wr) (fun x _ _ => (intOf x).toNat)
  case atStart => exact ⟨0, Nat.zero_le _, by rw [Nat.pow_zero, Nat.div_one], own_empty _ (Nat.le_refl _), (Below.refl _ _).alloc (Nat.le_refl _) _⟩
  case round =>
    obtain ⟨k, hk, rfl, hown, bW⟩ := hrel
    have hle : X / 256 ^ k ≤ X := Nat.div_le_self _ _
    have hstep : X / 256 ^ k / 256 = X / 256 ^ (k + 1) := by rw [Nat.pow_succ, Nat.div_div_eq_div_mul]
    have hdig : X / 256 ^ k % 256 = dig X k := rfl
    have hk8 : k = 8 → X / 256 ^ k = 0 := fun e => by rw [e]; exact Nat.div_eq_of_lt HX.out
    have HZ : Hid (X / 256 ^ k = 0 → X < 256 ^ k) := Lib.hid fun e => by
      rcases Nat.lt_or_ge X (256 ^ k) with h | h
      · exact h
      · have := Nat.div_pos h (Nat.pow_pos (by decide))
        omega
    have HS := Lib.hid hstep
    have HD := Lib.hid hdig
    clear hstep hdig
    generalize hY : X / 256 ^ k = Y at *
    have HY := Lib.hid hY
    clear hY
    by_cases hlt : 0 < Y
    · have hk' : k < 8 := by
        rcases Nat.lt_or_ge k 8 with h | h
        · exact h
        · have := hk8 (by omega)
          omega
      have m1 : ((Y : Nat) : Int) % 256 = ((dig X k : Nat) : Int) := by have := HD.out; omega
      have m2 : (Y : Int).tmod 256 = ((dig X k : Nat) : Int) := by rw [Int.tmod_eq_emod_of_nonneg (by omega)]; exact m1
      have m3 : ((Y : Nat) : Int) / 256 = ((X / 256 ^ (k + 1) : Nat) : Int) := by rw [← HS.out]; omega
      have m4 : (Y : Int).tdiv 256 = ((X / 256 ^ (k + 1) : Nat) : Int) := by rw [Int.tdiv_eq_ediv_of_nonneg (by omega)]; exact m3
      have hd := dig_lt X k
      have hnx : X / 256 ^ (k + 1) < Y := by rw [← HS.out]; omega
      clear hk8
      generalize hZe : X / 256 ^ (k + 1) = Z at *
      have HZe := Lib.hid hZe
      clear hZe
      have wd1 : IntKind.i64.wrap ((dig X k : Nat) : Int) = ((dig X k : Nat) : Int) := by rw [IntKind.wrap_i64]; omega
      have hdgs := dg_succ X k
      have HDG := Lib.hid hdgs
      clear hdgs
      generalize dig X k = d at *
      go_wp2_with (at_builtin; refine wpList_append_own _ rfl _ _ 31 rfl w.heap.size 3 i0 (.int .i64 0) 1 8 Try.underlying31 hi hz0 hz1 hz2 rfl (by decide) _ _ _ rfl (hown.alloc _) ⟨wr.heap.size, 0, none⟩ 1 1 [.int .i64 ((d : Nat) : Int)] rfl rfl ?c1 ?c2 ?c3 ?c4 ?c5 ?_)
      case c1 => exact own_one _ _
      case c2 => simp [Value.oneCell']
      case c3 => unfold maxLen; omega
      case c4 => omega
      case c5 => have := bW.size; simp; omega
      intro v' w3 hown' hgrow _
      rw [HDG.out] at hown'
      have hr := fun g hg => (hown.lt g hg).1
      have hsz := bW.size
      have bX : Below w.heap.size w w3 := (bW.alloc (o := .cells #[.int .i64 ((d : Nat) : Int)] 3) hsz).grown hgrow (by simp; omega) (fun g hg => hr g hg)
      clear hown hgrow bW hr
      go_wp2_with fail
      exact ⟨⟨k + 1, by omega, by rw [HZe.out], hown', bX⟩, by simp only [intOf]; omega⟩
    · obtain rfl : Y = 0 := by omega
      have hsm := HZ.out rfl
      have HSM := Lib.hid hsm
      clear hsm hk8 hlt
      go_wp2_with fail
      go_ret
      exact ⟨_, k, rfl, hk, NumS.of_owns hown HSM.out (by omega), bW⟩

set_option maxHeartbeats 1000000 in
theorem top_core (A : Option Addr) (n c D L t : Nat) (w : World) (hL : (L : Int) ≤ 1000) (ht : t = L - 1)
    (HF : Hid (Calls Try.prog 56 #[.slice A n c] w fun e w' => e = .returned (.agg (da D)) ∧ Below w.heap.size w w'))
    (HL : Hid (∀ w, Calls Try.prog 57 #[.agg (da D)] w fun e w' => e = .returned (.int .i64 (L : Int)) ∧ Below w.heap.size w w')) :
    Calls Try.prog 40 #[.slice A n c] w fun e w' => e = .returned (.int .u64 (t : Int)) ∧ Below w.heap.size w w' := by
  have HT := Lib.hid ht
  clear ht
  go_enter Try.func40, Try.ntmps40
  go_wp2_with fail
  refine (HF.out).mono ?_
  rintro _ w1 ⟨rfl, b1⟩
  go_wp2_with fail
  refine (HL.out _).mono ?_
  rintro _ w2 ⟨rfl, b2⟩
  have HB := Lib.hid (b1.trans (b2.mono b1.size))
  clear b1 b2 HF HL
  by_cases h0 : L = 0
  · subst h0
    go_wp2_with fail
    go_ret
    exact ⟨by rw [HT.out]; rfl, HB.out⟩
  · have e0 : (((L : Nat) : Int) == 0) = false := by rw [beq_eq_false_iff_ne]; omega
    have e1 : (L : Int) - 1 = (t : Int) := by have := HT.out; omega
    have e2 : IntKind.u64.wrap (t : Int) = (t : Int) := by rw [IntKind.wrap_u64]; omega
    clear h0
    go_wp2_with fail
    go_ret
    exact ⟨rfl, HB.out⟩
theorem top_ref (A : Option Addr) (n c : Nat) (f : Nat → Nat) (w : World) (hn : n ≤ 32) (hs : Sl w A n f) :
    Calls Try.prog 40 #[.slice A n c] w fun e w' => e = .returned (.int .u64 ((bl (bvl f n) - 1 : Nat) : Int)) ∧ Below w.heap.size w w' := by
  have hb : bvl f n < M := bvl_wordlt hs.small hn
  have hbl : bl (bvl f n) ≤ 256 := bl_le (by have := hb; rwa [show M = 2 ^ 256 by decide] at this)
  refine top_core A n c (bvl f n) (bl (bvl f n)) _ w (by omega) rfl (Lib.hid ?_) (Lib.hid fun w => ?_)
  · rw [bvl_val]
    exact from_ref A n c n f w (Nat.le_trans hn (by decide)) (by omega) hs
  · have := len_ref (bvl f n) w
    rwa [Nat.mod_eq_of_lt hb] at this
end Go.Proofs.Ytflpdlpfclbcgaa
