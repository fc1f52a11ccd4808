/- The statement PrecPaid, walked. -/
import Derived.Test.YtihefgpicnhdjaaDoorPcF
namespace Go.Proofs.YtihefgpicnhdjaaDoor
open Go.RowKit SmWord
set_option maxRecDepth 100000

set_option maxHeartbeats 8000000 in
theorem ppaid_core (z : Int) (P Q L c m : Nat) (ok : Bool) (f g : Nat → Nat) (A : Option Addr) (w : World) (hL : L ≤ 1000) (hs : Sl w A L f) (hT : Tab w)
    (hok : Hid ((ok = true) ∨ (ok = false ∧ z = 5 ∧ m = 0))) (hPQ : Hid ((P = 0 ∧ Q = 0) ∨ P = Q + 1)) (hPB : P < 18446744073709551616)
    (HSh : Hid (∃ s : Bool, ∀ w', Below w.heap.size w w' → Calls Tryd.prog 5 #[.slice A L c] w' fun e w'' => e = .returned (.bool s) ∧ Below w'.heap.size w' w''))
    (KP : Hid (∀ w', Sl w' A L f → Calls Tryd.prog 10 #[.int .i64 z, .slice A L c] w' fun e w'' => e = .returned (.int .u64 (P : Int)) ∧ Below w'.heap.size w' w''))
    (KR : Hid (∀ w', Sl w' A L f → Calls Tryd.prog 11 #[.int .i64 z, .slice A L c] w' fun e w'' => e = .returned (.int .u64 (P : Int)) ∧ Below w'.heap.size w' w''))
    (K1 : Hid (∀ w', Sl w' A L f → Tab w' → Calls Tryd.prog 7 #[.int .i64 z, .slice A L c, .int .u64 (P : Int)] w' (RunIs m 0 ok g w')))
    (K2 : Hid (P = Q + 1 → ∀ w', Sl w' A L f → Tab w' → Calls Tryd.prog 7 #[.int .i64 z, .slice A L c, .int .u64 (Q : Int)] w' (RunIs 0 0 false g w'))) :
    Calls Tryd.prog 4 #[.int .i64 z, .slice A L c] w fun e w' => e = .returned (.bool true) ∧ Below w.heap.size w w' := by
  have HS := Lib.hid hs
  have HT := Lib.hid hT
  have HF := Lib.hid fun w' (h : Below w.heap.size w w') => pfixed_walk w' (hT.below h)
  have hl : decide (1000 < (L : Int)) = false := by simp; omega
  have hl' : decide (1000 < L) = false := by simp; omega
  clear hs hT
  go_enter Tryd.func4, Tryd.ntmps4
  go_upto_region 1 with fail
  go_cut [23] (fun v wx => ∃ b : Bool, v = .bool b ∧ ∃ w0, w0 = wx ∧ Below w.heap.size w wx)
  case first =>
    clear K1 K2 HF KP KR hok hPQ hPB
    obtain ⟨s, hsh⟩ := HSh.out
    have KS := Lib.hid (hsh w (Below.refl _ _))
    clear hsh HSh
    cases e5 : (z == 5)
    · go_wp2_with fail
      go_meet
      exact ⟨_, rfl, _, rfl, Below.refl _ _⟩
    · cases s
      · go_wp2_with (go_at_call 5; refine KS.out.mono ?_; rintro e w1 ⟨rfl, b1⟩; have HB := Lib.hid b1; clear b1 KS)
        go_meet
        exact ⟨_, rfl, _, rfl, HB.out⟩
      · go_wp2_with (go_at_call 5; refine KS.out.mono ?_; rintro e w1 ⟨rfl, b1⟩; have HB := Lib.hid b1; clear b1 KS)
        go_meet
        exact ⟨_, rfl, _, rfl, HB.out⟩
  case rest =>
    obtain ⟨b, rfl, w0, rfl, hb⟩ := hcut
    have HB := Lib.hid hb
    clear hb HSh hl hl'
    cases b with
    | true =>
      clear K1 K2 KP KR hok hPQ hPB
      go_wp2_with (go_at_call 6; refine (HF.out _ HB.out).mono ?_; rintro e w1 ⟨rfl, b1⟩; replace HB := Lib.hid (HB.out.trans (b1.mono HB.out.size)); clear b1)
      go_ret
      exact ⟨rfl, HB.out⟩
    | false =>
      go_upto_region 4 with (go_at_call 10; refine (KP.out _ (HS.out.below HB.out)).mono ?_; rintro e w1 ⟨rfl, b1⟩; have HB1 := Lib.hid (HB.out.trans (b1.mono HB.out.size)); clear b1)
      clear KP HB
      have en : ((P : Int) != (P : Int)) = false := by simp
      go_upto_region 6 with (go_at_call 11; refine (KR.out _ (HS.out.below HB1.out)).mono ?_; rintro e w2 ⟨rfl, b1⟩; have HB := Lib.hid (HB1.out.trans (b1.mono HB1.out.size)); clear b1)
      clear KR HB1
      go_upto_region 7 with (go_at_call 7; refine (K1.out _ (HS.out.below HB.out) (HT.out.below HB.out)).mono ?_; rintro e w3 ⟨X, cx, rfl, _, b1⟩; have HB1 := Lib.hid (HB.out.trans (b1.mono HB.out.size)); clear b1)
      clear K1 HB
      go_cut [59] (fun v wx => v = .bool false ∧ w3 = wx)
      case first =>
        rcases hok.out with rfl | ⟨rfl, rfl, rfl⟩
        · clear hok hPQ K2
          go_wp2_with fail
          go_meet
          exact ⟨rfl, rfl⟩
        · clear hok hPQ K2
          go_wp2_with fail
          go_meet
          exact ⟨rfl, rfl⟩
      case rest =>
        obtain ⟨rfl, rfl⟩ := hcut
        clear hok
        rcases hPQ.out with ⟨rfl, rfl⟩ | hp
        · clear hPQ K2
          go_wp2_with (go_at_call 6; refine (HF.out _ HB1.out).mono ?_; rintro e w1 ⟨rfl, b1⟩; replace HB1 := Lib.hid (HB1.out.trans (b1.mono HB1.out.size)); clear b1)
          go_ret
          exact ⟨rfl, HB1.out⟩
        · have KK := Lib.hid (K2.out hp)
          have e0 : ((P : Int) == 0) = false := by rw [beq_eq_false_iff_ne]; omega
          have e1 : (P : Int) - 1 = (Q : Int) := by omega
          have e2 : IntKind.u64.wrap (Q : Int) = (Q : Int) := by rw [IntKind.wrap_u64]; omega
          clear hPQ K2 hp hPB
          go_upto_region 12 with (go_at_call 7; refine (KK.out _ (HS.out.below HB1.out) (HT.out.below HB1.out)).mono ?_; rintro e w4 ⟨Y, cy, rfl, _, b1⟩; have HB := Lib.hid (HB1.out.trans (b1.mono HB1.out.size)); clear b1)
          clear KK HB1
          go_wp2_with (go_at_call 6; refine (HF.out _ HB.out).mono ?_; rintro e w1 ⟨rfl, b1⟩; replace HB := Lib.hid (HB.out.trans (b1.mono HB.out.size)); clear b1)
          go_ret
          exact ⟨rfl, HB.out⟩
set_option maxHeartbeats 4000000 in
theorem ppaid_far (z : Int) (L c : Nat) (A : Option Addr) (w : World) (hm : L ≤ maxLen) (h : 1000 < L) (hT : Tab w) :
    Calls Tryd.prog 4 #[.int .i64 z, .slice A L c] w fun e w' => e = .returned (.bool true) ∧ Below w.heap.size w w' := by
  have hm' : L ≤ 9223372036854775807 := hm
  have HF := Lib.hid (pfixed_walk w hT)
  clear hT
  go_enter Tryd.func4, Tryd.ntmps4
  go_wp2_with (go_at_call 6; refine HF.out.mono ?_; rintro e w1 ⟨rfl, b1⟩)
  go_ret
  exact ⟨rfl, b1⟩
theorem mg_lt (X S : Nat) : mg X S < B := by
  unfold mg
  generalize (X + 7) / 8 * ((X + 7) / 8) * (if S = 0 then 1 else S) / 3 = q
  by_cases h : q < B
  · rw [if_pos h]
    rcases Nat.le_total q 200 with h2 | h2
    · rw [Nat.max_eq_right h2]; decide
    · rw [Nat.max_eq_left h2]; exact h
  · rw [if_neg h]; decide
theorem gasN_lt (f : Nat → Nat) (n : Nat) : gasN f n < B := by
  unfold gasN
  simp only
  split
  · decide
  · split
    · exact mg_lt _ _
    · decide
theorem pP_lt (z : Int) (L : Nat) (f : Nat → Nat) (hL : L ≤ 100000) : pP z L f < B := by
  have h2 : wn L ≤ 100000 := by unfold wn; omega
  unfold pP
  split
  · simp only [B]; omega
  · split
    · simp only [B]; omega
    · split
      · exact gasN_lt f L
      · decide
theorem ppaid_walk (z : Int) (L c : Nat) (f : Nat → Nat) (A : Option Addr) (w : World) (hm : L ≤ maxLen) (hc : L ≤ c) (hA : A = none → L = 0 ∧ c = 0) (hs : Sl w A L f) (hT : Tab w) :
    Calls Tryd.prog 4 #[.int .i64 z, .slice A L c] w fun e w' => e = .returned (.bool true) ∧ Below w.heap.size w w' := by
  by_cases h : 1000 < L
  · exact ppaid_far z L c A w hm h hT
  · have hL : L ≤ 100000 := by omega
    have hP := pP_lt z L f hL
    refine ppaid_core z (pP z L f) (pP z L f - 1) L c (am z f L) (ao z f L) f (ag z f L) A w (by omega) hs hT (Lib.hid ?_) (Lib.hid (by omega)) (by simpa only [B] using hP) (Lib.hid (short_walk L c f A w hL hs))
      (Lib.hid fun w' hs' => price_any L c f A w' hL hc hA hs' z) (Lib.hid fun w' hs' => rprice_any L c f A w' hL hs' z) (Lib.hid fun w' hs' hT' => ?_) (Lib.hid fun hp w' hs' hT' => ?_)
    · cases ho : ao z f L with
      | true => exact .inl rfl
      | false =>
        refine .inr ⟨rfl, ?_, am_no z f L ho⟩
        unfold ao at ho
        by_cases h5 : z = 5
        · exact h5
        · rw [if_neg h5] at ho; cases ho
    · have := prun_walk z (pP z L f) L c f A w' hP hL hc hA hs' hT'
      have e1 : rm z (pP z L f) f L = am z f L := if_pos (Nat.le_refl _)
      have e2 : rl' z (pP z L f) f L = 0 := by unfold rl'; split <;> omega
      have e3 : ro z (pP z L f) f L = ao z f L := by unfold ro; rw [decide_eq_true (Nat.le_refl _), Bool.true_and]
      rwa [e1, e2, e3] at this
    · have := prun_walk z (pP z L f - 1) L c f A w' (by omega) hL hc hA hs' hT'
      have hn : ¬ pP z L f ≤ pP z L f - 1 := by omega
      have e1 : rm z (pP z L f - 1) f L = 0 := if_neg hn
      have e2 : rl' z (pP z L f - 1) f L = 0 := if_neg fun h => hn h.1
      have e3 : ro z (pP z L f - 1) f L = false := by unfold ro; rw [decide_eq_false hn, Bool.false_and]
      rwa [e1, e2, e3] at this
end Go.Proofs.YtihefgpicnhdjaaDoor
