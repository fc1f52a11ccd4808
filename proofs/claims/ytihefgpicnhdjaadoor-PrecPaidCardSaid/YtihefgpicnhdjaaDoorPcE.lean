/- What the document's Run does. -/
import Derived.Test.YtihefgpicnhdjaaDoorPcD
namespace Go.Proofs.YtihefgpicnhdjaaDoor
open Go.RowKit SmWord
set_option maxRecDepth 100000

/-- Which way the lengths of an input go. -/
theorem ways (f : Nat → Nat) (n : Nat) : ∃ (b10 b12 : Bool) (L0 L1 L2 : Nat) (x y z : Bool),
    (L0 = (if askV f n 0 < B then askV f n 0 else 0) ∧ L1 = (if askV f n 1 < B then askV f n 1 else 0) ∧ L2 = (if askV f n 2 < B then askV f n 2 else 0) ∧ x = decide (askV f n 0 < B) ∧ y = decide (askV f n 1 < B) ∧ z = decide (askV f n 2 < B)) ∧
    ((b10 = true ∧ x = true ∧ z = true ∧ L0 = 0 ∧ L2 = 0) ∨ (b10 = false ∧ x = false) ∨ (b10 = false ∧ x = true ∧ z = false) ∨ (b10 = false ∧ x = true ∧ z = true ∧ L0 ≠ 0) ∨ (b10 = false ∧ x = true ∧ z = true ∧ L0 = 0 ∧ L2 ≠ 0)) ∧
    ((b12 = true ∧ x = false) ∨ (b12 = true ∧ x = true ∧ y = false) ∨ (b12 = true ∧ x = true ∧ y = true ∧ z = false) ∨ (b12 = true ∧ x = true ∧ y = true ∧ z = true ∧ 64 < L0) ∨ (b12 = true ∧ x = true ∧ y = true ∧ z = true ∧ ¬ 64 < L0 ∧ 64 < L1) ∨ (b12 = true ∧ x = true ∧ y = true ∧ z = true ∧ ¬ 64 < L0 ∧ ¬ 64 < L1 ∧ 64 < L2) ∨ (b12 = false ∧ x = true ∧ y = true ∧ z = true ∧ ¬ 64 < L0 ∧ ¬ 64 < L1 ∧ ¬ 64 < L2)) ∧
    (b10 = true → a5m f n = 0 ∧ a5o f n = true) ∧ (b10 = false → b12 = true → a5m f n = 0 ∧ a5o f n = false) ∧
    (b10 = false → b12 = false → a5m f n = L2 ∧ a5o f n = true ∧ L0 ≤ 64 ∧ L1 ≤ 64 ∧ L2 ≤ 64 ∧ ∀ i, a5g f n i = dig (pw (bvl (pf f n 96) L0) (bvl (pf f n (96 + L0)) L1) (bvl (pf f n (96 + L0 + L1)) L2)) (L2 - 1 - i)) := by
  have hB : (64 : Nat) < B := by decide
  refine ⟨decide (askV f n 0 = 0 ∧ askV f n 2 = 0), !(okL (askV f n) 64), _, _, _, _, _, _, ⟨rfl, rfl, rfl, rfl, rfl, rfl⟩, ?_⟩
  obtain ⟨b10, e10⟩ : (∃ b10 : Bool, b10 = decide (askV f n 0 = 0 ∧ askV f n 2 = 0)) := ⟨_, rfl⟩
  obtain ⟨b12, e12⟩ : ∃ b12 : Bool, b12 = !(okL (askV f n) 64) := ⟨_, rfl⟩
  rw [← e10, ← e12]
  have hcase : ∀ k, (decide (askV f n k < B) = false) ∨ (decide (askV f n k < B) = true ∧ (if askV f n k < B then askV f n k else 0) = askV f n k) := fun k => by
    by_cases hk : askV f n k < B
    · exact .inr ⟨decide_eq_true hk, if_pos hk⟩
    · exact .inl (decide_eq_false hk)
  have hfar : ∀ k, decide (askV f n k < B) = false → 64 < askV f n k := fun k hk => by
    have := of_decide_eq_false hk
    omega
  have h10 : (b10 = true ∧ decide (askV f n 0 < B) = true ∧ decide (askV f n 2 < B) = true ∧ (if askV f n 0 < B then askV f n 0 else 0) = 0 ∧ (if askV f n 2 < B then askV f n 2 else 0) = 0) ∨ (b10 = false ∧ decide (askV f n 0 < B) = false) ∨ (b10 = false ∧ decide (askV f n 0 < B) = true ∧ decide (askV f n 2 < B) = false) ∨ (b10 = false ∧ decide (askV f n 0 < B) = true ∧ decide (askV f n 2 < B) = true ∧ (if askV f n 0 < B then askV f n 0 else 0) ≠ 0) ∨ (b10 = false ∧ decide (askV f n 0 < B) = true ∧ decide (askV f n 2 < B) = true ∧ (if askV f n 0 < B then askV f n 0 else 0) = 0 ∧ (if askV f n 2 < B then askV f n 2 else 0) ≠ 0) := by
    rcases hcase 0 with c0 | ⟨c0, v0⟩
    · exact .inr (.inl ⟨e10.trans (decide_eq_false fun hh => by have := hfar 0 c0; omega), c0⟩)
    rcases hcase 2 with c2 | ⟨c2, v2⟩
    · exact .inr (.inr (.inl ⟨e10.trans (decide_eq_false fun hh => by have := hfar 2 c2; omega), c0, c2⟩))
    rw [v0, v2]
    by_cases z0 : askV f n 0 = 0
    · by_cases z2 : askV f n 2 = 0
      · exact .inl ⟨e10.trans (decide_eq_true ⟨z0, z2⟩), c0, c2, z0, z2⟩
      · exact .inr (.inr (.inr (.inr ⟨e10.trans (decide_eq_false fun hh => z2 hh.2), c0, c2, z0, z2⟩)))
    · exact .inr (.inr (.inr (.inl ⟨e10.trans (decide_eq_false fun hh => z0 hh.1), c0, c2, z0⟩)))
  have hno : ∀ k, k < 3 → 64 < askV f n k → b12 = true := fun k hk hv => by
    rw [e12]
    cases ho : okL (askV f n) 64 with
    | false => rfl
    | true => have := (okL_iff (askV f n) 64).1 ho k hk; omega
  have h12 : (b12 = true ∧ decide (askV f n 0 < B) = false) ∨ (b12 = true ∧ decide (askV f n 0 < B) = true ∧ decide (askV f n 1 < B) = false) ∨ (b12 = true ∧ decide (askV f n 0 < B) = true ∧ decide (askV f n 1 < B) = true ∧ decide (askV f n 2 < B) = false) ∨ (b12 = true ∧ decide (askV f n 0 < B) = true ∧ decide (askV f n 1 < B) = true ∧ decide (askV f n 2 < B) = true ∧ 64 < (if askV f n 0 < B then askV f n 0 else 0)) ∨ (b12 = true ∧ decide (askV f n 0 < B) = true ∧ decide (askV f n 1 < B) = true ∧ decide (askV f n 2 < B) = true ∧ ¬ 64 < (if askV f n 0 < B then askV f n 0 else 0) ∧ 64 < (if askV f n 1 < B then askV f n 1 else 0)) ∨ (b12 = true ∧ decide (askV f n 0 < B) = true ∧ decide (askV f n 1 < B) = true ∧ decide (askV f n 2 < B) = true ∧ ¬ 64 < (if askV f n 0 < B then askV f n 0 else 0) ∧ ¬ 64 < (if askV f n 1 < B then askV f n 1 else 0) ∧ 64 < (if askV f n 2 < B then askV f n 2 else 0)) ∨ (b12 = false ∧ decide (askV f n 0 < B) = true ∧ decide (askV f n 1 < B) = true ∧ decide (askV f n 2 < B) = true ∧ ¬ 64 < (if askV f n 0 < B then askV f n 0 else 0) ∧ ¬ 64 < (if askV f n 1 < B then askV f n 1 else 0) ∧ ¬ 64 < (if askV f n 2 < B then askV f n 2 else 0)) := by
    rcases hcase 0 with c0 | ⟨c0, v0⟩
    · exact .inl ⟨hno 0 (by omega) (hfar 0 c0), c0⟩
    rcases hcase 1 with c1 | ⟨c1, v1⟩
    · exact .inr (.inl ⟨hno 1 (by omega) (hfar 1 c1), c0, c1⟩)
    rcases hcase 2 with c2 | ⟨c2, v2⟩
    · exact .inr (.inr (.inl ⟨hno 2 (by omega) (hfar 2 c2), c0, c1, c2⟩))
    rw [v0, v1, v2]
    by_cases z0 : 64 < askV f n 0
    · exact .inr (.inr (.inr (.inl ⟨hno 0 (by omega) z0, c0, c1, c2, z0⟩)))
    by_cases z1 : 64 < askV f n 1
    · exact .inr (.inr (.inr (.inr (.inl ⟨hno 1 (by omega) z1, c0, c1, c2, z0, z1⟩))))
    by_cases z2 : 64 < askV f n 2
    · exact .inr (.inr (.inr (.inr (.inr (.inl ⟨hno 2 (by omega) z2, c0, c1, c2, z0, z1, z2⟩)))))
    · refine .inr (.inr (.inr (.inr (.inr (.inr ⟨?_, c0, c1, c2, z0, z1, z2⟩)))))
      rw [e12, (okL_iff (askV f n) 64).2 fun i hi => by
        have : i = 0 ∨ i = 1 ∨ i = 2 := by omega
        rcases this with rfl | rfl | rfl <;> omega]
      rfl
  refine ⟨h10, h12, fun hb => ?_, fun h1 h2 => ?_, fun h1 h2 => ?_⟩
  · have hz := of_decide_eq_true (e10.symm.trans hb)
    rw [a5m, a5o, if_pos hz, decide_eq_true hz]
    exact ⟨rfl, rfl⟩
  · have hz := of_decide_eq_false (e10.symm.trans h1)
    have ho : okL (askV f n) 64 = false := by
      rw [e12] at h2
      cases ho : okL (askV f n) 64 with
      | false => rfl
      | true => rw [ho] at h2; cases h2
    rw [a5m, a5o, if_neg hz, decide_eq_false hz, ho]
    exact ⟨rfl, rfl⟩
  · have hz := of_decide_eq_false (e10.symm.trans h1)
    have ho : okL (askV f n) 64 = true := by
      rw [e12] at h2
      cases ho : okL (askV f n) 64 with
      | false => rw [ho] at h2; cases h2
      | true => rfl
    have ha := (okL_iff (askV f n) 64).1 ho
    have a0 := ha 0 (by omega)
    have a1 := ha 1 (by omega)
    have a2 := ha 2 (by omega)
    rw [if_pos (show askV f n 0 < B by omega), if_pos (show askV f n 1 < B by omega), if_pos (show askV f n 2 < B by omega), a5m, a5o, if_neg hz, ho, Bool.or_true]
    exact ⟨if_pos rfl, rfl, a0, a1, a2, fun i => by rw [a5g, Nat.add_assoc]⟩
section
variable (L c : Nat) (f : Nat → Nat) (A : Option Addr) (w : World) (hL : L ≤ 100000) (hs : Sl w A L f)
include hL hs
theorem rpower_walk : Calls Tryd.prog 15 #[.slice A L c] w (AnsIs (a5m f L) (a5o f L) (a5g f L) w) := by
  have HLen : ∀ k : Nat, k ≤ 2 → ∀ w', Below w.heap.size w w' → Calls Tryd.prog 12 #[.slice A L c, .int .i64 (k : Int)] w' (LenV (if askV f L k < B then askV f L k else 0) (decide (askV f L k < B)) w') := fun k hk w' hb =>
    (rlen_walk A L c k f w' hL hk (hs.below hb)).mono fun e w'' h => lenV_any h
  have HL0 := HLen 0 (by omega)
  have HL1 := HLen 1 (by omega)
  have HL2 := HLen 2 (by omega)
  have HP : ∀ at' m, at' ≤ 1000 → m ≤ 64 → ∀ w', Below w.heap.size w w' → Calls Tryd.prog 20 #[.slice A L c, .int .i64 ((at' : Nat) : Int), .int .i64 ((m : Nat) : Int)] w' (RetB m (pf f L at') w') := fun at' m ha hm w' hb => rpart_walk A L c at' m f w' hL (by omega) (by omega) (hs.below hb)
  obtain ⟨b10, b12, L0, L1, L2, x, y, z, ⟨rfl, rfl, rfl, rfl, rfl, rfl⟩, h10, h12, k1, k2, k3⟩ := ways f L
  generalize (if askV f L 0 < B then askV f L 0 else 0) = L0 at *
  generalize (if askV f L 1 < B then askV f L 1 else 0) = L1 at *
  generalize (if askV f L 2 < B then askV f L 2 else 0) = L2 at *
  exact rpower_core A L c (a5g f L) (pf f L 96) (pf f L (96 + L0)) (pf f L (96 + L0 + L1)) w _ _ _ b10 b12 (a5o f L) L0 L1 L2 (a5m f L) _ (96 + L0) (96 + L0 + L1) (Lib.hid HL0) (Lib.hid HL1) (Lib.hid HL2) (Lib.hid h10) (Lib.hid h12) (Lib.hid k1) (Lib.hid k2) (Lib.hid k3) (Lib.hid rfl) (Lib.hid rfl)
      (Lib.hid fun l0 => HP 96 L0 (by omega) l0) (Lib.hid fun l0 l1 => HP (96 + L0) L1 (by omega) l1) (Lib.hid fun l0 l1 l2 => HP (96 + L0 + L1) L2 (by omega) l2)
      (Lib.hid fun l0 l1 l2 w' A1 A2 A3 c1 c2 c3 s1 s2 s3 => rpow_ref L0 L1 L2 c1 c2 c3 A1 A2 A3 _ _ _ w' l0 l1 l2 s1 s2 s3)
theorem short_walk : ∃ s : Bool, ∀ w', Below w.heap.size w w' → Calls Tryd.prog 5 #[.slice A L c] w' fun e w'' => e = .returned (.bool s) ∧ Below w'.heap.size w' w'' := by
  obtain ⟨b10, b12, L0, L1, L2, x, y, z, ⟨rfl, rfl, rfl, rfl, rfl, rfl⟩, _, h12, _, _, _⟩ := ways f L
  refine ⟨b12 || decide ((if askV f L 0 < B then askV f L 0 else 0) ≤ 20 ∧ (if askV f L 1 < B then askV f L 1 else 0) ≤ 5 ∧ (if askV f L 2 < B then askV f L 2 else 0) ≤ 9), fun w' hb => ?_⟩
  have hs' := hs.below hb
  have HLen : ∀ k : Nat, k ≤ 2 → ∀ w'', Below w'.heap.size w' w'' → Calls Tryd.prog 12 #[.slice A L c, .int .i64 (k : Int)] w'' (LenV (if askV f L k < B then askV f L k else 0) (decide (askV f L k < B)) w'') := fun k hk w'' hb =>
    (rlen_walk A L c k f w'' hL hk (hs'.below hb)).mono fun e w3 h => lenV_any h
  have HL0 := HLen 0 (by omega)
  have HL1 := HLen 1 (by omega)
  have HL2 := HLen 2 (by omega)
  generalize (if askV f L 0 < B then askV f L 0 else 0) = L0 at *
  generalize (if askV f L 1 < B then askV f L 1 else 0) = L1 at *
  generalize (if askV f L 2 < B then askV f L 2 else 0) = L2 at *
  refine short_core A L c w' _ _ _ b12 _ L0 L1 L2 (Lib.hid HL0) (Lib.hid HL1) (Lib.hid HL2) (Lib.hid h12) (Lib.hid ?_)
  by_cases c0 : L0 ≤ 20
  · by_cases c1 : L1 ≤ 5
    · by_cases c2 : L2 ≤ 9
      · exact .inr (.inr (.inr ⟨decide_eq_true ⟨c0, c1, c2⟩, c0, c1, c2⟩))
      · exact .inr (.inr (.inl ⟨decide_eq_false fun h => c2 h.2.2, c0, c1, c2⟩))
    · exact .inr (.inl ⟨decide_eq_false fun h => c1 h.2.1, c0, c1⟩)
  · exact .inl ⟨decide_eq_false fun h => c0 h.1, c0⟩
end
set_option maxHeartbeats 4000000 in
theorem rrun_less (z : Int) (G P L c : Nat) (g : Nat → Nat) (A : Option Addr) (w : World) (h : G < P)
    (HP : Hid (∀ w', Below w.heap.size w w' → Calls Tryd.prog 11 #[.int .i64 z, .slice A L c] w' fun e w'' => e = .returned (.int .u64 (P : Int)) ∧ Below w'.heap.size w' w'')) :
    Calls Tryd.prog 8 #[.int .i64 z, .slice A L c, .int .u64 (G : Int)] w (RunIs 0 0 false g w) := by
  have e1 : decide ((G : Int) < (P : Int)) = true := by simp; omega
  have e1' : decide (G < P) = true := by simp; omega
  clear h
  go_enter Tryd.func8, Tryd.ntmps8
  go_upto_region 2 with fail
  have b0 : Below w.heap.size w (w.alloc (.cells #[] 5)) := (Below.refl _ _).alloc (Nat.le_refl _) _
  have HB := Lib.hid b0
  obtain ⟨w1, hw1⟩ : ∃ w1, w.alloc (.cells #[] 5) = w1 := ⟨_, rfl⟩
  rw [hw1] at HB ⊢
  clear hw1 b0
  go_wp2_with (go_at_call 11; refine (HP.out _ HB.out).mono ?_; rintro e w2 ⟨rfl, b1⟩; replace HB := Lib.hid (HB.out.trans (b1.mono HB.out.size)); clear b1)
  go_ret3
  exact ⟨_, _, rfl, ⟨fun i hi => by omega, fun h => by omega⟩, HB.out⟩
set_option maxHeartbeats 4000000 in
theorem rrun_more (z : Int) (G P R m L c : Nat) (g : Nat → Nat) (A : Option Addr) (w : World) (hG : G < B) (h : P ≤ G) (hR : G - P = R)
    (HP : Hid (∀ w', Below w.heap.size w w' → Calls Tryd.prog 11 #[.int .i64 z, .slice A L c] w' fun e w'' => e = .returned (.int .u64 (P : Int)) ∧ Below w'.heap.size w' w''))
    (hz : Hid ((z = 2 ∧ ∀ w', Below w.heap.size w w' → Calls Tryd.prog 14 #[.slice A L c] w' (OutIs m g w')) ∨ (z = 4 ∧ m = L ∧ Sl w A L g) ∨ (z = 5 ∧ ∀ w', Below w.heap.size w w' → Calls Tryd.prog 15 #[.slice A L c] w' (AnsIs m true g w')) ∨ (z ≠ 2 ∧ z ≠ 4 ∧ z ≠ 5 ∧ m = 0))) :
    Calls Tryd.prog 8 #[.int .i64 z, .slice A L c, .int .u64 (G : Int)] w (RunIs m R true g w) := by
  simp only [B] at hG
  have e1 : decide ((G : Int) < (P : Int)) = false := by simp; omega
  have e1' : decide (G < P) = false := by simp; omega
  have e2 : (G : Int) - (P : Int) = (R : Int) := by omega
  have e3 : IntKind.u64.wrap (R : Int) = (R : Int) := by rw [IntKind.wrap_u64]; omega
  have HG : Hid (Sl (w.alloc (.cells #[] 5)) (some ⟨w.heap.size, 0, none⟩) 0 g) := Lib.hid ⟨fun i hi => by omega, fun h => by omega⟩
  clear h hR hG
  go_enter Tryd.func8, Tryd.ntmps8
  go_upto_region 2 with fail
  have b0 : Below w.heap.size w (w.alloc (.cells #[] 5)) := (Below.refl _ _).alloc (Nat.le_refl _) _
  have HB := Lib.hid b0
  obtain ⟨w1, hw1⟩ : ∃ w1, w.alloc (.cells #[] 5) = w1 := ⟨_, rfl⟩
  rw [hw1] at HB HG ⊢
  clear hw1 b0
  go_upto_region 3 with (go_at_call 11; refine (HP.out _ HB.out).mono ?_; rintro e w2 ⟨rfl, b1⟩; have HB2 := Lib.hid (HB.out.trans (b1.mono HB.out.size)); have HG2 := Lib.hid (HG.out.below b1); clear b1)
  clear HP HB HG
  rcases hz.out with ⟨rfl, HH⟩ | ⟨rfl, rfl, hs⟩ | ⟨rfl, HH⟩ | ⟨h2, h4, h5, rfl⟩
  · have KH := Lib.hid HH
    clear hz HH
    go_wp2_with (go_at_call 14; refine (KH.out _ HB2.out).mono ?_; rintro e w3 ⟨X, cx, rfl, s3, b3⟩; replace HB2 := Lib.hid (HB2.out.trans (b3.mono HB2.out.size)); clear b3)
    go_ret3
    exact ⟨_, _, rfl, s3, HB2.out⟩
  · have KS := Lib.hid (hs.below HB2.out)
    clear hz hs
    go_wp2_with fail
    go_ret3
    exact ⟨_, _, rfl, KS.out, HB2.out⟩
  · have KH := Lib.hid HH
    clear hz HH
    go_wp2_with (go_at_call 15; refine (KH.out _ HB2.out).mono ?_; rintro e w3 ⟨X, cx, rfl, s3, b3⟩; replace HB2 := Lib.hid (HB2.out.trans (b3.mono HB2.out.size)); clear b3)
    go_ret3
    exact ⟨_, _, rfl, s3, HB2.out⟩
  · have e2 : (z == 2) = false := by rw [beq_eq_false_iff_ne]; exact h2
    have e4 : (z == 4) = false := by rw [beq_eq_false_iff_ne]; exact h4
    have e5 : (z == 5) = false := by rw [beq_eq_false_iff_ne]; exact h5
    clear hz h2 h4 h5
    go_wp2_with fail
    go_ret3
    exact ⟨_, _, rfl, HG2.out, HB2.out⟩
set_option maxHeartbeats 4000000 in
theorem rrun_no (G P L c : Nat) (g h : Nat → Nat) (A : Option Addr) (w : World) (hle : P ≤ G)
    (HP : Hid (∀ w', Below w.heap.size w w' → Calls Tryd.prog 11 #[.int .i64 5, .slice A L c] w' fun e w'' => e = .returned (.int .u64 (P : Int)) ∧ Below w'.heap.size w' w''))
    (KH : Hid (∀ w', Below w.heap.size w w' → Calls Tryd.prog 15 #[.slice A L c] w' (AnsIs 0 false h w'))) :
    Calls Tryd.prog 8 #[.int .i64 5, .slice A L c, .int .u64 (G : Int)] w (RunIs 0 0 false g w) := by
  have e1 : decide ((G : Int) < (P : Int)) = false := by simp; omega
  have e1' : decide (G < P) = false := by simp; omega
  have HG : Hid (Sl (w.alloc (.cells #[] 5)) (some ⟨w.heap.size, 0, none⟩) 0 g) := Lib.hid ⟨fun i hi => by omega, fun h => by omega⟩
  clear hle
  go_enter Tryd.func8, Tryd.ntmps8
  go_upto_region 2 with fail
  have b0 : Below w.heap.size w (w.alloc (.cells #[] 5)) := (Below.refl _ _).alloc (Nat.le_refl _) _
  have HB := Lib.hid b0
  obtain ⟨w1, hw1⟩ : ∃ w1, w.alloc (.cells #[] 5) = w1 := ⟨_, rfl⟩
  rw [hw1] at HB HG ⊢
  clear hw1 b0
  go_upto_region 3 with (go_at_call 11; refine (HP.out _ HB.out).mono ?_; rintro e w2 ⟨rfl, b1⟩; have HB2 := Lib.hid (HB.out.trans (b1.mono HB.out.size)); have HG2 := Lib.hid (HG.out.below b1); clear b1)
  clear HP HB HG
  go_wp2_with (go_at_call 15; refine (KH.out _ HB2.out).mono ?_; rintro e w3 ⟨X, cx, rfl, _, b3⟩; replace HB2 := Lib.hid (HB2.out.trans (b3.mono HB2.out.size)); replace HG2 := Lib.hid (HG2.out.below b3); clear b3)
  go_ret3
  exact ⟨_, _, rfl, HG2.out, HB2.out⟩
theorem rrun_walk (z : Int) (G L c : Nat) (f : Nat → Nat) (A : Option Addr) (w : World) (hG : G < B) (hL : L ≤ 100000) (hA : A = none → L = 0 ∧ c = 0) (hs : Sl w A L f) :
    Calls Tryd.prog 8 #[.int .i64 z, .slice A L c, .int .u64 (G : Int)] w (RunIs (rm z G f L) (rl' z G f L) (ro z G f L) (ag z f L) w) := by
  have HP := Lib.hid fun w' (hb : Below w.heap.size w w') => rprice_any L c f A w' hL (hs.below hb) z
  unfold rm rl' ro
  by_cases hp : pP z L f ≤ G
  · rw [if_pos hp, decide_eq_true hp, Bool.true_and]
    by_cases h5 : z = 5
    · subst h5
      have HW := fun w' (hb : Below w.heap.size w w') => rpower_walk L c f A w' hL (hs.below hb)
      rw [show am 5 f L = a5m f L from rfl, show ao 5 f L = a5o f L from rfl, show ag 5 f L = a5g f L from rfl]
      cases ho : a5o f L with
      | true =>
        rw [if_pos ⟨hp, rfl⟩]
        rw [ho] at HW
        exact rrun_more 5 G _ _ _ L c _ A w hG hp rfl HP (Lib.hid (.inr (.inr (.inl ⟨rfl, HW⟩))))
      | false =>
        rw [if_neg (fun h => by cases h.2), a5m_no f L ho]
        rw [ho, a5m_no f L ho] at HW
        exact rrun_no G _ L c _ _ A w hp HP (Lib.hid HW)
    · rw [show ao z f L = true from if_neg h5, if_pos ⟨hp, rfl⟩]
      refine rrun_more z G _ _ _ L c _ A w hG hp rfl HP (Lib.hid ?_)
      by_cases h2 : z = 2
      · subst h2
        exact .inl ⟨rfl, fun w' hb => rhash_walk L c f A w' hL hA (hs.below hb)⟩
      · by_cases h4 : z = 4
        · subst h4
          exact .inr (.inl ⟨rfl, rfl, hs⟩)
        · exact .inr (.inr (.inr ⟨h2, h4, h5, by unfold am; rw [if_neg h2, if_neg h4, if_neg h5]⟩))
  · rw [if_neg hp, decide_eq_false hp, Bool.false_and, if_neg (fun h => hp h.1)]
    exact rrun_less z G _ L c _ A w (by omega) HP
end Go.Proofs.YtihefgpicnhdjaaDoor
