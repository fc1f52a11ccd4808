/- What the document's Gas does; the statement on gas: its walk. -/
import Derived.Test.YtflpdlpfclbcgaaMyE
namespace Go.Proofs.Ytflpdlpfclbcgaa
open Go.RowKit SmWord
set_option maxRecDepth 100000

theorem bl_zero_le {x : Nat} (h : x < M) : bl x ≤ 256 := bl_le (by rwa [show M = 2 ^ 256 by decide] at h)
theorem pf_none {f : Nat → Nat} {n at' : Nat} (h : n ≤ at') : pf f n at' = fun _ => 0 := funext fun i => if_neg (by omega)
theorem lenV_small {V : Nat} {w : World} {e : Ending} {w' : World} (h : LenIs V w e w') (hV : V < B) : LenV V true w e w' := by
  obtain ⟨h1, h2⟩ := h
  rw [if_pos hV, decide_eq_true hV] at h1
  exact ⟨h1, h2⟩
theorem lenV_any {V : Nat} {w : World} {e : Ending} {w' : World} (h : LenIs V w e w') : LenV (if V < B then V else 0) (decide (V < B)) w e w' := h
theorem okL_small {V : Nat → Nat} : okL V (B - 1) = true ↔ V 0 < B ∧ V 1 < B ∧ V 2 < B := by
  have : 0 < B := by decide
  unfold okL
  rw [decide_eq_true_iff]
  omega
theorem rgas_walk (A : Option Addr) (n c : Nat) (f : Nat → Nat) (w : World) (hn : n ≤ 100000) (hs : Sl w A n f) :
    Calls Try.prog 18 #[.slice A n c] w fun e w' => e = .returned (.int .u64 ((gasN f n : Nat) : Int)) ∧ Below w.heap.size w w' := by
  have hp := pf_lt hs.small
  obtain ⟨V, hVe⟩ : ∃ V, V = fun i => bvl (pf f n (32 * i)) 32 := ⟨_, rfl⟩
  have hG : gasN f n = if V 0 = 0 ∧ V 2 = 0 then 200 else if okL V (B - 1) then
    mg (max (V 0) (V 2)) ((max (bl (bvl (pf f n (96 + V 0)) (min (V 1) 32))) 1 - 1) + (if 32 < V 1 then (V 1 - 32) * 8 else 0)) else 18446744073709551615 := by rw [hVe]; rfl
  have HLen : ∀ k : Nat, k ≤ 2 → ∀ w', Below w.heap.size w w' → Calls Try.prog 20 #[.slice A n c, .int .i64 (k : Int)] w' (LenIs (V k) w') := fun k hk w' hb => by
    rw [hVe]
    exact rlen_walk A n c k f w' hn hk (hs.below hb)
  clear hVe
  have HL0 := HLen 0 (by omega) w (Below.refl _ _)
  have HL1 := HLen 1 (by omega)
  have HL2 := HLen 2 (by omega)
  have hB0 : (0 : Nat) < B := by decide
  by_cases hz : V 0 = 0 ∧ V 2 = 0
  · rw [hG, if_pos hz]
    refine rgas_bad A n c 200 0 (if V 1 < B then V 1 else 0) 0 true (decide (V 1 < B)) true w (Lib.hid (HL0.mono fun e w' h => ?_)) (Lib.hid fun w' hb => (HL1 w' hb).mono fun e w'' h => lenV_any h) (Lib.hid fun w' hb => (HL2 w' hb).mono fun e w'' h => ?_) (Lib.hid (.inl ⟨rfl, rfl, rfl, rfl, rfl⟩))
    · rw [hz.1] at h
      exact lenV_small h hB0
    · rw [hz.2] at h
      exact lenV_small h hB0
  rw [hG, if_neg hz]
  by_cases hok : V 0 < B ∧ V 1 < B ∧ V 2 < B
  · rw [if_pos (okL_small.2 hok)]
    obtain ⟨h0, h1, h2⟩ := hok
    have hbh : bvl (pf f n (96 + V 0)) (min (V 1) 32) < M := bvl_wordlt (fun j _ => hp _ j) (by omega)
    have hbl := bl_zero_le hbh
    have hH0 : ¬ V 0 < 1099511627776 → bvl (pf f n (96 + V 0)) (min (V 1) 32) = 0 := fun h => by
      rw [pf_none (by omega), bvl_zero]
    have hb0 : V 0 < 18446744073709551616 := h0
    have hb1 : V 1 < 18446744073709551616 := h1
    have hb2 : V 2 < 18446744073709551616 := h2
    have hT : max (bl (bvl (pf f n (96 + V 0)) (min (V 1) 32))) 1 - 1 = bl (bvl (pf f n (96 + V 0)) (min (V 1) 32)) - 1 := by omega
    rw [hT]
    have HP : V 0 < 1099511627776 → ∀ w', Below w.heap.size w w' → Calls Try.prog 21 #[.slice A n c, .int .i64 ((96 + V 0 : Nat) : Int), .int .i64 ((min (V 1) 32 : Nat) : Int)] w' (RetB (min (V 1) 32) (pf f n (96 + V 0)) w') := fun h w' hb =>
      rpart_walk A n c (96 + V 0) (min (V 1) 32) f w' hn (by omega) (by omega) (hs.below hb)
    generalize hHe : bvl (pf f n (96 + V 0)) (min (V 1) 32) = H at *
    have hTB : bl H - 1 < B := Nat.lt_of_le_of_lt (show bl H - 1 ≤ 256 by omega) (by decide)
    have hW : (if max (V 0) (V 2) % 8 = 0 then max (V 0) (V 2) / 8 else max (V 0) (V 2) / 8 + 1) = (max (V 0) (V 2) + 7) / 8 := by split <;> omega
    have hWB : (max (V 0) (V 2) + 7) / 8 < B := by simp only [B]; omega
    refine rgas_near A n c _ (V 0) (V 1) (V 2) (min (V 1) 32) H (bl H - 1) (max (V 0) (V 2)) (max (V 0) (V 2) / 8) (max (V 0) (V 2) % 8) ((max (V 0) (V 2) + 7) / 8) (bl H - 1 + (if 32 < V 1 then (V 1 - 32) * 8 else 0)) (if bl H - 1 + (if 32 < V 1 then (V 1 - 32) * 8 else 0) = 0 then 1 else bl H - 1 + (if 32 < V 1 then (V 1 - 32) * 8 else 0)) _ (96 + V 0) (pf f n (96 + V 0)) w hb0 hb1 hb2
      (Lib.hid (HL0.mono fun e w' h => lenV_small h h0)) (Lib.hid fun w' hb => (HL1 w' hb).mono fun e w'' h => lenV_small h h1) (Lib.hid fun w' hb => (HL2 w' hb).mono fun e w'' h => lenV_small h h2)
      (Lib.hid hz) (by omega) (Lib.hid rfl) (Lib.hid HP) (Lib.hid fun _ => hHe) (Lib.hid fun h => (hH0 h)) (Lib.hid rfl) (Lib.hid hTB) (by omega) (Lib.hid rfl) (Lib.hid rfl) (Lib.hid hW) (Lib.hid hWB) (Lib.hid rfl) (Lib.hid rfl) (Lib.hid rfl) (Lib.hid ?_)
    unfold mg
    generalize (max (V 0) (V 2) + 7) / 8 * ((max (V 0) (V 2) + 7) / 8) * (if bl H - 1 + (if 32 < V 1 then (V 1 - 32) * 8 else 0) = 0 then 1 else bl H - 1 + (if 32 < V 1 then (V 1 - 32) * 8 else 0)) / 3 = Q
    simp only [B]
    by_cases hq : Q < 18446744073709551615
    · rw [if_pos hq, if_pos (by omega)]
    · rw [if_neg hq]
      by_cases hq2 : Q < 18446744073709551616
      · rw [if_pos hq2]; omega
      · rw [if_neg hq2]
  · rw [if_neg (fun h => hok (okL_small.1 h))]
    refine rgas_bad A n c _ (if V 0 < B then V 0 else 0) (if V 1 < B then V 1 else 0) (if V 2 < B then V 2 else 0) (decide (V 0 < B)) (decide (V 1 < B)) (decide (V 2 < B)) w (Lib.hid (HL0.mono fun e w' h => lenV_any h)) (Lib.hid fun w' hb => (HL1 w' hb).mono fun e w'' h => lenV_any h) (Lib.hid fun w' hb => (HL2 w' hb).mono fun e w'' h => lenV_any h) (Lib.hid ?_)
    by_cases a0 : V 0 < B
    · by_cases a2 : V 2 < B
      · have a1 : ¬ V 1 < B := fun h => hok ⟨a0, h, a2⟩
        rw [if_pos a0, if_pos a2, decide_eq_true a0, decide_eq_true a2, decide_eq_false a1]
        by_cases z : V 0 = 0
        · exact .inr (.inr (.inr (.inr ⟨rfl, rfl, rfl, z, fun h => hz ⟨z, h⟩, rfl⟩)))
        · exact .inr (.inr (.inr (.inl ⟨rfl, rfl, rfl, z, rfl⟩)))
      · rw [decide_eq_true a0, decide_eq_false a2]
        exact .inr (.inr (.inl ⟨rfl, rfl, rfl⟩))
    · rw [decide_eq_false a0]
      exact .inr (.inl ⟨rfl, rfl⟩)

set_option maxHeartbeats 2000000 in
theorem gaslaw_far (A : Option Addr) (n c : Nat) (w : World) (hn : n ≤ maxLen) (h : 2000 < n) : Calls Try.prog 6 #[.slice A n c] w fun e w' => e = .returned (.bool true) ∧ Below w.heap.size w w' := by
  have hl : n ≤ 9223372036854775807 := hn
  go_enter Try.func6, Try.ntmps6
  go_wp2_with fail
  refine (fixed_walk _).mono ?_
  rintro e w1 ⟨rfl, b1⟩
  go_wp2_with fail
  go_ret
  exact ⟨rfl, b1⟩
set_option maxHeartbeats 2000000 in
theorem gaslaw_near (A : Option Addr) (n c G : Nat) (w : World) (h : n ≤ 2000)
    (HG : Hid (∀ w', Below w.heap.size w w' → Calls Try.prog 17 #[.slice A n c] w' fun e w'' => e = .returned (.int .u64 (G : Int)) ∧ Below w'.heap.size w' w''))
    (HR : Hid (∀ w', Below w.heap.size w w' → Calls Try.prog 18 #[.slice A n c] w' fun e w'' => e = .returned (.int .u64 (G : Int)) ∧ Below w'.heap.size w' w'')) :
    Calls Try.prog 6 #[.slice A n c] w fun e w' => e = .returned (.bool true) ∧ Below w.heap.size w w' := by
  go_enter Try.func6, Try.ntmps6
  go_wp2_with fail
  refine (fixed_walk _).mono ?_
  rintro _ w1 ⟨rfl, b1⟩
  have HG1 := Lib.hid (HG.out _ b1)
  clear HG
  go_wp2_with fail
  refine (HG1.out).mono ?_
  rintro _ w2 ⟨rfl, b2⟩
  have b3 := b1.trans (b2.mono b1.size)
  have HR1 := Lib.hid (HR.out _ b3)
  clear HR HG1 b1 b2
  go_wp2_with fail
  refine (HR1.out).mono ?_
  rintro _ w3 ⟨rfl, b2⟩
  go_wp2_with fail
  go_ret
  exact ⟨rfl, b3.trans (b2.mono b3.size)⟩
theorem gaslaw_walk (A : Option Addr) (n c : Nat) (f : Nat → Nat) (w : World) (hn : n ≤ maxLen) (hnc : n ≤ c) (hA : A = none → n = 0 ∧ c = 0) (hs : Sl w A n f) : Calls Try.prog 6 #[.slice A n c] w fun e w' => e = .returned (.bool true) ∧ Below w.heap.size w w' := by
  by_cases h : 2000 < n
  · exact gaslaw_far A n c w hn h
  · exact gaslaw_near A n c (gasN f n) w (by omega) (Lib.hid fun w' hb => gas_walk A n c f w' (by omega) hnc hA (hs.below hb)) (Lib.hid fun w' hb => rgas_walk A n c f w' (by omega) (hs.below hb))
end Go.Proofs.Ytflpdlpfclbcgaa
