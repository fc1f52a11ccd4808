/- The document's memory: what reaching makes of a length, growing, reading and writing. -/
import Derived.Test.YtnffelnmlloonaaG5
namespace Go.Proofs.Ytnffelnmlloonaa
open Go.RowKit SmWord
set_option maxRecDepth 100000

theorem upm_parts {m : Nat} (hm : m < M) : (m ≤ 4194304 ↔ l1 m = 0 ∧ l2 m = 0 ∧ l3 m = 0 ∧ l0 m ≤ 4194304) ∧ (m ≤ 4194304 → l0 m = m) := by
  have e := num_parts m
  rw [Nat.mod_eq_of_lt hm] at e
  have hl : m ≤ 4194304 → l0 m = m := fun h => l0_small (by simp only [B]; omega)
  refine ⟨⟨fun h => ?_, fun ⟨h1, h2, h3, h0⟩ => ?_⟩, hl⟩
  · have h0 := hl h
    unfold num at e
    rw [h0] at e
    have h4 : B * (l1 m + B * (l2 m + B * l3 m)) = 0 := by omega
    have h5 : l1 m + B * (l2 m + B * l3 m) = 0 := by
      rcases Nat.mul_eq_zero.1 h4 with h | h
      · exact absurd h (by decide)
      · exact h
    have h6 : B * (l2 m + B * l3 m) = 0 := by omega
    have h7 : l2 m + B * l3 m = 0 := by
      rcases Nat.mul_eq_zero.1 h6 with h | h
      · exact absurd h (by decide)
      · exact h
    have h8 : B * l3 m = 0 := by omega
    have h9 : l3 m = 0 := by
      rcases Nat.mul_eq_zero.1 h8 with h | h
      · exact absurd h (by decide)
      · exact h
    exact ⟨by omega, by omega, h9, by omega⟩
  · rw [h1, h2, h3] at e
    unfold num at e
    simp at e
    omega
theorem rsmall_core (m : Nat) (x0 x1 x2 x3 : Nat) (w : World) (e : wa m = #[.int .u64 (x0 : Int), .int .u64 (x1 : Int), .int .u64 (x2 : Int), .int .u64 (x3 : Int)]) (x : Int) (ok : Bool)
    (H1 : Hid (x1 = 0 ∧ x2 = 0 ∧ x3 = 0 ∧ x0 ≤ 4194304 → x = x0 ∧ ok = true)) (H2 : Hid (¬ (x1 = 0 ∧ x2 = 0 ∧ x3 = 0 ∧ x0 ≤ 4194304) → x = 0 ∧ ok = false)) :
    Calls Try.prog 41 #[wd m] w fun e w' => e = .returned (.tuple #[.int .u64 x, .bool ok]) ∧ Below w.heap.size w w' := by
  have f0 : (w.alloc (.cells (wa m) 30)).heap[w.heap.size]? = some (.cells (wa m) 30) := heap_alloc_new _ _
  rw [e] at f0
  have c0 := blk_cell (j := 0) f0 rfl
  have c1 := blk_cell (j := 1) f0 rfl
  have c2 := blk_cell (j := 2) f0 rfl
  have c3 := blk_cell (j := 3) f0 rfl
  simp only [wd, e]
  clear f0 e
  go_enter Try.func41, Try.ntmps41
  go_wp2_with fail
  all_goals
    go_ret2
    refine ⟨?_, (Below.refl _ _).alloc (Nat.le_refl _) _⟩
    first
      | (obtain ⟨h1, h2⟩ := H2.out (by omega); subst h1 h2; rfl)
      | (obtain ⟨h1, h2⟩ := H1.out (by omega); subst h1 h2; rfl)
theorem rsmall_walk (m : Nat) (w : World) (hm : m < M) : Calls Try.prog 41 #[wd m] w fun e w' => e = .returned (.tuple #[.int .u64 (if upm m then (m : Int) else 0), .bool (upm m)]) ∧ Below w.heap.size w w' := by
  obtain ⟨h1, h2⟩ := upm_parts hm
  refine rsmall_core m (l0 m) (l1 m) (l2 m) (l3 m) w rfl _ _ (Lib.hid fun h => ?_) (Lib.hid fun h => ?_)
  · have h3 := h1.2 h
    have e : upm m = true := decide_eq_true h3
    rw [e, if_pos rfl, h2 h3]
    exact ⟨rfl, rfl⟩
  · have e : upm m = false := decide_eq_false fun h' => h (h1.1 h')
    rw [e, if_neg (by decide)]
    exact ⟨rfl, rfl⟩
/-- What reaching makes of a length: the document's. -/
theorem rreach_core {n a k : Nat} (w : World) (_hn : n ≤ 4194304) (ha : a < M) (hk : k < M) (x : Int) (ok : Bool) (h : (k = 0 ∧ ok = true ∧ x = n) ∨ (0 < k ∧ ((upm a = false ∧ ok = false ∧ x = 0) ∨ (upm a = true ∧ ((upm k = false ∧ ok = false ∧ x = 0) ∨ (upm k = true ∧ ((4194304 < a + k ∧ ok = false ∧ x = 0) ∨ (a + k ≤ 4194304 ∧ ok = true ∧ x = max (n : Int) (32 * (wn (a + k) : Int)))))))))) :
    Calls Try.prog 13 #[.int .i64 (n : Int), wd a, wd k] w fun e w' => e = .returned (.tuple #[.int .i64 x, .bool ok]) ∧ Below w.heap.size w w' := by
  obtain ⟨f0, f1, bW⟩ := boxes w a k
  have KA := Lib.hid fun w => rsmall_walk a w ha
  have KK := Lib.hid fun w => rsmall_walk k w hk
  have e0 := fun w => zero_eq hk w
  have g1 := Try.guardW
  have hsz := wa_size
  clear ha
  have HB := Lib.hid bW
  generalize hW : ((w.alloc (.cells (wa a) 30)).alloc (.cells (wa k) 30)) = W at *
  obtain ⟨z, hz⟩ : ∃ z, w.heap.size = z := ⟨_, rfl⟩
  rw [hz] at f0 f1
  rcases h with ⟨hk0, rfl, rfl⟩ | ⟨hk1, h⟩
  · have e1 := e0
    subst hk0
    simp only [decide_true] at e1
    clear e0 KA KK
    go_enter Try.func13, Try.ntmps13
    go_upto_region 1 with fail
    clear hW hsz
    go_wp2_with (refine wpList_load_row rfl 30 _ rfl _ rfl 30 _ (0, 0) _ (by assumption) Try.underlying30 rfl Try.infoWa ?_)
    go_ret2
    exact ⟨rfl, by first | exact HB.out | (rw [← hz]; exact HB.out)⟩
  · have e1 : ∀ w, (Op.equalIn 10000 30 (.agg (wa k)) (.agg #[.int .u64 0, .int .u64 0, .int .u64 0, .int .u64 0])).run Try.prog w = .ok false w := fun w => by rw [e0 w, decide_eq_false (by omega)]
    clear e0
    go_enter Try.func13, Try.ntmps13
    go_upto_region 1 with fail
    clear hW hsz
    have F1 := Lib.hid f1
    go_wp2_with (refine wpList_load_row rfl 30 _ rfl _ rfl 30 _ (0, 0) _ (by assumption) Try.underlying30 rfl Try.infoWa ?_)
    clear f0 f1 e1 g1
    refine (KA.out _).mono ?_
    rintro e w1 ⟨rfl, b1⟩
    have f1 := stay b1 F1.out
    replace HB := Lib.hid (HB.out.trans (b1.mono HB.out.size))
    clear b1 F1 KA
    obtain ⟨va, hVA⟩ : ∃ va : Int, va = if upm a then (a : Int) else 0 := ⟨_, rfl⟩
    obtain ⟨ua, hUA⟩ : ∃ ua : Bool, ua = upm a := ⟨_, rfl⟩
    rw [← hVA, ← hUA]
    replace hVA := Lib.hid hVA
    replace hUA := Lib.hid hUA
    replace h := Lib.hid h
    go_wp2_with (refine wpList_load_row rfl 30 _ rfl _ rfl 30 _ (0, 0) _ (by assumption) Try.underlying30 rfl Try.infoWa ?_)
    replace hVA := hVA.out
    replace hUA := hUA.out
    replace h := h.out
    refine (KK.out _).mono ?_
    rintro e w2 ⟨rfl, b2⟩
    obtain ⟨vk, hVK⟩ : ∃ vk : Int, vk = if upm k then (k : Int) else 0 := ⟨_, rfl⟩
    obtain ⟨uk, hUK⟩ : ∃ uk : Bool, uk = upm k := ⟨_, rfl⟩
    rw [← hVK, ← hUK]
    replace hVK := Lib.hid hVK
    replace hUK := Lib.hid hUK
    replace HB := Lib.hid (HB.out.trans (b2.mono HB.out.size))
    clear b2 KK f1
    rcases h with ⟨hu, rfl, rfl⟩ | ⟨hu, hv⟩
    · rw [hu, if_neg (by decide)] at hVA
      rw [hu] at hUA
      subst hVA hUA
      go_wp2_with fail
      go_ret2
      exact ⟨rfl, by first | exact HB.out | (rw [← hz]; exact HB.out)⟩
    have ha1 := of_decide_eq_true hu
    rw [hu, if_pos rfl] at hVA
    rw [hu] at hUA
    subst hVA hUA
    replace hVK := hVK.out
    replace hUK := hUK.out
    rcases hv with ⟨hv, rfl, rfl⟩ | ⟨hv, h⟩
    · rw [hv, if_neg (by decide)] at hVK
      rw [hv] at hUK
      subst hVK hUK
      go_wp2_with fail
      go_ret2
      exact ⟨rfl, by first | exact HB.out | (rw [← hz]; exact HB.out)⟩
    have hk2 := of_decide_eq_true hv
    rw [hv, if_pos rfl] at hVK
    rw [hv] at hUK
    subst hVK hUK
    rcases h with ⟨hs, rfl, rfl⟩ | ⟨hs, rfl, rfl⟩
    · have h1 : decide (4194304 < (a : Int) + (k : Int)) = true := by simp; omega
      go_wp2_with fail
      go_ret2
      exact ⟨rfl, by first | exact HB.out | (rw [← hz]; exact HB.out)⟩
    · have h1 : decide (4194304 < (a : Int) + (k : Int)) = false := by simp; omega
      have K := Lib.hid fun w => words_ref (a + k) w (by simp only [B]; omega)
      rw [Int.natCast_add] at K
      have h2 : wn (a + k) ≤ 131072 := by unfold wn; omega
      have h3 : (wn (a + k) : Int) * 32 = 32 * (wn (a + k) : Int) := by omega
      go_wp2_with (go_at_call 29; refine (K.out _).mono ?_; rintro e w3 ⟨rfl, rfl⟩)
      go_ret2
      exact ⟨rfl, by first | exact HB.out | (rw [← hz]; exact HB.out)⟩
theorem rreach_walk (n a k : Nat) (w : World) (hn : n ≤ 4194304) (ha : a < M) (hk : k < M) :
    Calls Try.prog 13 #[.int .i64 (n : Int), wd a, wd k] w fun e w' => e = .returned (.tuple #[.int .i64 (if rok a k then ((rlen n a k : Nat) : Int) else 0), .bool (rok a k)]) ∧ Below w.heap.size w w' := by
  refine rreach_core w hn ha hk _ _ ?_
  unfold rok rlen upm
  by_cases h0 : k = 0
  · exact .inl ⟨h0, by simp [h0], by simp [h0]⟩
  refine .inr ⟨by omega, ?_⟩
  by_cases h1 : a ≤ 4194304
  · refine .inr ⟨by simp [h1], ?_⟩
    by_cases h2 : k ≤ 4194304
    · refine .inr ⟨by simp [h2], ?_⟩
      by_cases h3 : a + k ≤ 4194304
      · exact .inr ⟨h3, by simp [h3], by simp only [h0, h3, or_true, decide_true, if_true, if_false]; omega⟩
      · exact .inl ⟨by omega, by simp [h0, h3], by simp [h0, h3]⟩
    · have h3 : ¬ a + k ≤ 4194304 := by omega
      exact .inl ⟨by simp [h2], by simp [h0, h3], by simp [h0, h3]⟩
  · have h3 : ¬ a + k ≤ 4194304 := by omega
    exact .inl ⟨by simp [h1], by simp [h0, h3], by simp [h0, h3]⟩
end Go.Proofs.Ytnffelnmlloonaa
/- The statement MemFar at every place and number: it returns true. -/
namespace Go.Proofs.Ytnffelnmlloonaa
open Go.RowKit SmWord
set_option maxRecDepth 100000

theorem w5 : #[Value.int .u64 5, .int .u64 0, .int .u64 0, .int .u64 0] = wa 5 := rfl
theorem w3 : #[Value.int .u64 3, .int .u64 0, .int .u64 0, .int .u64 0] = wa 3 := rfl
theorem blk_ne {w : World} {b b' : Nat} {c c' : Array Value} {t t' : TypeId} (h : w.heap[b]? = some (.cells c t)) (h' : w.heap[b']? = some (.cells c' t')) (ht : t ≠ t') : b ≠ b' := fun e => by
  subst e
  rw [h] at h'
  injection h' with h1
  injection h1 with _ h2
  exact ht h2
theorem Off.keep {base b n : Nat} {v : Value} {f : Nat → Nat} {w w' : World} (h : Off base b v w w') (hM : MemAt w base b v n f) {i : Nat} {c : Array Value} {t : TypeId} (hi : w.heap[i]? = some (.cells c t)) (h1 : t ≠ 69) (h2 : t ≠ 5) : w'.heap[i]? = some (.cells c t) :=
  (h.block i (Array.getElem?_eq_some_iff.1 hi).1 (blk_ne hi hM.blk h1) (own_ne hM.own hi h2)).trans hi
theorem fold_w (n : Nat) : #[Value.int .u64 ((l0 n : Nat) : Int), .int .u64 ((l1 n : Nat) : Int), .int .u64 ((l2 n : Nat) : Int), .int .u64 ((l3 n : Nat) : Int)] = wa n := rfl
theorem wcells {w : World} {b m : Nat} {t : TypeId} (hb : w.heap[b]? = some (.cells (wa m) t)) : w.cell? ⟨b, 0, none⟩ = some (.int .u64 ((l0 m : Nat) : Int)) ∧ w.cell? ⟨b, 1, none⟩ = some (.int .u64 ((l1 m : Nat) : Int)) ∧ w.cell? ⟨b, 2, none⟩ = some (.int .u64 ((l2 m : Nat) : Int)) ∧ w.cell? ⟨b, 3, none⟩ = some (.int .u64 ((l3 m : Nat) : Int)) :=
  ⟨blk_cell hb rfl, blk_cell hb rfl, blk_cell hb rfl, blk_cell hb rfl⟩
set_option maxHeartbeats 2000000 in
theorem far_core (a k : Nat) (ok : Bool) (m : Nat) (cst : Nat) (w : World)
    (H1 : Hid (∀ w, Calls Try.prog 13 #[.int .i64 32, wd a, wd k] w fun e w' => e = .returned (.tuple #[.int .i64 (if ok then (m : Int) else 0), .bool ok]) ∧ Below w.heap.size w w'))
    (H2 : Hid (∀ base b v f w, MemAt w base b v 32 f → Calls Try.prog 14 #[.pointer (some ⟨b, 0, none⟩), wd a, wd k] w fun e w' => e = .returned (.tuple #[.int .u64 (if ok then (cst : Int) else 0), .bool ok]) ∧ Below w.heap.size w w'))
    (H3 : Hid (∀ base b v f w, MemAt w base b v 32 f → Calls Try.prog 16 #[.pointer (some ⟨b, 0, none⟩), wd a, wd k] w fun e w' => e = .returned (.bool ok) ∧ ∃ v', MemAt w' base b v' (if ok then m else 32) (ext0 f 32) ∧ Below base w w')) :
    Calls Try.prog 5 #[wd a, wd k] w fun e w' => e = .returned (.bool true) ∧ Below w.heap.size w w' := by
  obtain ⟨f0, f1, bW⟩ := boxes w a k
  have HB := Lib.hid bW
  have hsz := wa_size
  have x5 := w5
  have x3 := w3
  generalize hW : ((w.alloc (.cells (wa a) 30)).alloc (.cells (wa k) 30)) = W at *
  have K0 := Lib.hid (mnew_walk w.heap.size W bW.size)
  have KF := Lib.hid mfixed_walk
  have F0 := Lib.hid f0
  have F1 := Lib.hid f1
  obtain ⟨z, hz⟩ : ∃ z, w.heap.size = z := ⟨_, rfl⟩
  have hzW : z ≤ W.heap.size := by rw [← hz]; exact bW.size
  rw [hz] at F0 F1 HB K0
  clear f0 f1 bW
  have fin : ∀ w2, Below z w w2 → Below w.heap.size w w2 := fun w2 h => by rw [hz]; exact h
  have FIN := Lib.hid fin
  clear fin
  go_enter Try.func5, Try.ntmps5
  go_upto_region 1 with fail
  clear hW hsz
  go_wp2_with fail
  refine K0.out.mono ?_
  rintro e w1 ⟨b, rfl, _, hM, b1⟩
  replace F0 := Lib.hid (stay b1 F0.out)
  replace F1 := Lib.hid (stay b1 F1.out)
  have HB1 := Lib.hid (HB.out.trans (b1.mono hzW))
  have K1 := mreach_walk hM 5 3 (by decide +kernel) (by decide +kernel)
  unfold ReachIs at K1
  rw [show rok 5 3 = true by decide +kernel, show rlen 0 5 3 = 32 by decide +kernel, if_pos rfl] at K1
  have HK := Lib.hid K1
  have HM := Lib.hid hM
  clear K1 hM b1 HB K0
  go_upto_region 4 with (go_at_call 16; refine HK.out.mono ?_; rintro e w2 ⟨rfl, v2, h2, o2, _⟩; have HM2 := Lib.hid h2; have HB2 := Lib.hid (HB1.out.trans o2.below); have f0 := o2.keep HM.out F0.out (by decide) (by decide); have f1 := o2.keep HM.out F1.out (by decide) (by decide); clear h2 o2)
  have F0' := Lib.hid f0
  have F1' := Lib.hid f1
  clear F0 F1 HM HK HB1
  go_wp2_with (refine wpList_load_row rfl 30 _ rfl _ rfl 30 _ (0, 0) _ (by assumption) Try.underlying30 rfl Try.infoWa ?_)
  refine (H1.out _).mono ?_
  rintro e w3 ⟨rfl, b3⟩
  replace HB2 := Lib.hid (HB2.out.trans (b3.mono HM2.out.base_le))
  replace HM2 := Lib.hid (HM2.out.below b3)
  have g0 := stay b3 F0'.out
  have g1 := stay b3 F1'.out
  clear b3 F0' F1' f0 f1 H1
  cases ok with
  | false =>
    simp only [Bool.false_eq_true, if_false] at H2 H3 ⊢
    go_upto_region 9 with (first | (refine wpList_load_row rfl 30 _ rfl _ rfl 30 _ (0, 0) _ (by assumption) Try.underlying30 rfl Try.infoWa ?_) | (go_at_call 14; refine (H2.out _ _ _ _ _ HM2.out).mono ?_; rintro e w4 ⟨rfl, b4⟩; have HB4 := Lib.hid (HB2.out.trans (b4.mono HM2.out.base_le)); have HM4 := Lib.hid (HM2.out.below b4); have G0 := Lib.hid (stay b4 g0); have G1 := Lib.hid (stay b4 g1); clear b4 g0 g1))
    have hh := HM4.out
    clear HB2 HM2
    go_wp2_with (first | (go_at_call 11; refine (KF.out _).mono ?_; rintro e w5 ⟨rfl, b5⟩; have HB5 := Lib.hid (HB4.out.trans (b5.mono HM4.out.base_le)); have HM5 := Lib.hid (HM4.out.below b5); obtain ⟨p0, p1, p2, p3⟩ := wcells (stay b5 G0.out); obtain ⟨r0, r1, r2, r3⟩ := wcells (stay b5 G1.out); have fo := fold_w; clear b5) | (refine wpList_load_row rfl 30 _ rfl _ rfl 30 _ (0, 0) _ (by assumption) Try.underlying30 rfl Try.infoWa ?_) | (go_at_call 16; refine (H3.out _ _ _ _ _ HM5.out).mono ?_; rintro e w6 ⟨rfl, v6, h6, b6⟩; have HB6 := Lib.hid (HB5.out.trans b6); have HM6 := Lib.hid h6; clear b6 h6) | (go_at_call 27; refine (mlen_walk HM6.out).mono ?_; rintro e w7 ⟨rfl, rfl⟩))
    go_ret
    exact ⟨rfl, FIN.out _ HB6.out⟩
  | true =>
    simp only [if_true] at H2 H3 ⊢
    by_cases hm : m ≤ 300000
    · have c1 : decide (300000 < (m : Int)) = false := by simp; omega
      have hself : (((m : Nat) : Int) == ((m : Nat) : Int)) = true := by simp
      go_upto_region 10 with (first | (refine wpList_load_row rfl 30 _ rfl _ rfl 30 _ (0, 0) _ (by assumption) Try.underlying30 rfl Try.infoWa ?_) | (go_at_call 14; refine (H2.out _ _ _ _ _ HM2.out).mono ?_; rintro e w4 ⟨rfl, b4⟩; have HB4 := Lib.hid (HB2.out.trans (b4.mono HM2.out.base_le)); have HM4 := Lib.hid (HM2.out.below b4); have G0 := Lib.hid (stay b4 g0); have G1 := Lib.hid (stay b4 g1); clear b4 g0 g1))
      clear HB2 HM2
      go_wp2_with (first | (go_at_call 11; refine (KF.out _).mono ?_; rintro e w5 ⟨rfl, b5⟩; have HB5 := Lib.hid (HB4.out.trans (b5.mono HM4.out.base_le)); have HM5 := Lib.hid (HM4.out.below b5); obtain ⟨p0, p1, p2, p3⟩ := wcells (stay b5 G0.out); obtain ⟨r0, r1, r2, r3⟩ := wcells (stay b5 G1.out); have fo := fold_w; clear b5) | (refine wpList_load_row rfl 30 _ rfl _ rfl 30 _ (0, 0) _ (by assumption) Try.underlying30 rfl Try.infoWa ?_) | (go_at_call 16; refine (H3.out _ _ _ _ _ HM5.out).mono ?_; rintro e w6 ⟨rfl, v6, h6, b6⟩; have HB6 := Lib.hid (HB5.out.trans b6); have HM6 := Lib.hid h6; clear b6 h6) | (go_at_call 27; refine (mlen_walk HM6.out).mono ?_; rintro e w7 ⟨rfl, rfl⟩))
      go_ret
      exact ⟨rfl, FIN.out _ HB6.out⟩
    · have c1 : decide (300000 < (m : Int)) = true := by simp; omega
      go_wp2_with (go_at_call 11; refine (KF.out _).mono ?_; rintro e w5 ⟨rfl, b5⟩; have HB5 := Lib.hid (HB2.out.trans (b5.mono HM2.out.base_le)); clear b5)
      go_ret
      exact ⟨rfl, FIN.out _ HB5.out⟩
theorem far_walk (a k : Nat) (w : World) (ha : a < M) (hk : k < M) : Calls Try.prog 5 #[wd a, wd k] w fun e w' => e = .returned (.bool true) ∧ Below w.heap.size w w' :=
  far_core a k (rok a k) (rlen 32 a k) (mco 32 a k) w (Lib.hid fun w => rreach_walk 32 a k w (by decide) ha hk) (Lib.hid fun _ _ _ _ _ h => mcost_walk h a k ha hk)
    (Lib.hid fun _ _ _ _ _ h => (mreach_walk h a k ha hk).mono fun _ _ ⟨h1, v', h2, h3, _⟩ => ⟨h1, v', h2, h3.below⟩)
end Go.Proofs.Ytnffelnmlloonaa
