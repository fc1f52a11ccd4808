/- What package gas does with words of memory, slots and stores, and what the document does; the chapter's examples. -/
import Derived.Test.YtdkjgpehlgejnaaG0
import Derived.Test.YtdkjgpehlgejnaaG3
import Derived.Test.YtdkjgpehlgejnaaG2
import Derived.Deep.Cut
import Derived.Deep.CutBlock
namespace Go.Proofs.Ytdkjgpehlgejnaa
open Go.RowKit SmWord
set_option maxRecDepth 100000

theorem z4_wa : #[Value.int .u64 0, .int .u64 0, .int .u64 0, .int .u64 0] = wa 0 := rfl
theorem when_walk (p : Bool) (c : Int) (w : World) : Calls Try.prog 32 #[.bool p, .int .u64 c] w fun e w' => e = .returned (.int .u64 (if p then c else 0)) ∧ w = w' := by
  cases p <;>
  · go_enter Try.func32, Try.ntmps32
    go_wp2_with fail
    go_ret
    exact ⟨rfl, rfl⟩
theorem part_walk (n : Nat) (w : World) (hn : n < B) : Calls Try.prog 26 #[.int .u64 (n : Int)] w fun e w' => e = .returned (.int .u64 ((n - n / 64 : Nat) : Int)) ∧ w = w' := by
  simp only [B] at hn
  have e1 : (n : Int) - (n : Int) / 64 = ((n - n / 64 : Nat) : Int) := by omega
  go_enter Try.func26, Try.ntmps26
  go_wp2_with fail
  go_ret
  exact ⟨rfl, rfl⟩
theorem refund_walk (u c : Nat) (w : World) (hu : u < B) (_hc : c < B) : Calls Try.prog 27 #[.int .u64 (u : Int), .int .u64 (c : Int)] w fun e w' => e = .returned (.int .u64 ((min c (u / 5) : Nat) : Int)) ∧ w = w' := by
  simp only [B] at hu
  go_enter Try.func27, Try.ntmps27
  go_wp2_with fail
  rw [show min (c : Int) ((u : Int) / 5) = ((min c (u / 5) : Nat) : Int) by omega]
  go_ret
  exact ⟨rfl, rfl⟩
theorem wcells {w : World} {b n : Nat} (h : w.heap[b]? = some (.cells (wa n) 24)) :
    w.cell? ⟨b, 0, none⟩ = some (.int .u64 ((l0 n : Nat) : Int)) ∧ w.cell? ⟨b, 1, none⟩ = some (.int .u64 ((l1 n : Nat) : Int)) ∧ w.cell? ⟨b, 2, none⟩ = some (.int .u64 ((l2 n : Nat) : Int)) ∧ w.cell? ⟨b, 3, none⟩ = some (.int .u64 ((l3 n : Nat) : Int)) :=
  ⟨blk_cell h rfl, blk_cell h rfl, blk_cell h rfl, blk_cell h rfl⟩
theorem none_walk (a : Nat) (q : Bool) (w : World) (E : Hid (∀ w : World, (Op.equalIn 10000 24 (.agg (wa a)) (.agg (wa 0))).run Try.prog w = .ok q w)) : Calls Try.prog 38 #[wd a] w fun e w' => e = .returned (.bool q) ∧ Below w.heap.size w w' := by
  have hs := wa_size
  have hz := z4_wa
  have eg := Try.guardW
  have he := E.out
  have fo := fold_wa
  obtain ⟨W, hW⟩ : ∃ W, w.alloc (.cells (wa a) 24) = W := ⟨_, rfl⟩
  have f0 : W.heap[w.heap.size]? = some (.cells (wa a) 24) := hW ▸ heap_alloc_new _ _
  have HB : Hid (Below w.heap.size w W) := Lib.hid (hW ▸ (Below.refl _ _).alloc (Nat.le_refl _) _)
  obtain ⟨p0, p1, p2, p3⟩ := wcells f0
  go_enter Try.func38, Try.ntmps38
  go_upto_region 1 with fail
  clear hW
  go_wp2_with fail
  go_ret
  exact ⟨rfl, HB.out⟩
theorem boxes (w : World) (a k : Nat) :
    ((w.alloc (.cells (wa a) 24)).alloc (.cells (wa k) 24)).heap[w.heap.size]? = some (.cells (wa a) 24) ∧
    ((w.alloc (.cells (wa a) 24)).alloc (.cells (wa k) 24)).heap[w.heap.size + 1]? = some (.cells (wa k) 24) ∧
    Below w.heap.size w ((w.alloc (.cells (wa a) 24)).alloc (.cells (wa k) 24)) :=
  ⟨blk_alloc (heap_alloc_new _ _), heap_alloc2_new _ _ _, ((Below.refl _ _).alloc (Nat.le_refl _) _).alloc (by simp) _⟩
theorem blk_new {w : World} {n : Nat} (o : Obj) (h : n = w.heap.size) : (w.alloc o).heap[n]? = some o := by subst h; exact heap_alloc_new _ _
/-- Three words, boxed. -/
def bx3 (w : World) (a b c : Nat) : World := ((w.alloc (.cells (wa a) 24)).alloc (.cells (wa b) 24)).alloc (.cells (wa c) 24)
theorem boxes3 (w : World) (a b c : Nat) :
    (bx3 w a b c).heap[w.heap.size]? = some (.cells (wa a) 24) ∧ (bx3 w a b c).heap[w.heap.size + 1]? = some (.cells (wa b) 24) ∧
    (bx3 w a b c).heap[w.heap.size + 2]? = some (.cells (wa c) 24) ∧ Below w.heap.size w (bx3 w a b c) :=
  ⟨blk_alloc (boxes w a b).1, blk_alloc (boxes w a b).2.1, blk_new _ (by simp), (boxes w a b).2.2.alloc (by simp <;> omega) _⟩
/-- The value of cleared. -/
def cV (q0 qh : Bool) : Int := if !q0 && qh then 4800 else 0
theorem cleared_walk (f h : Nat) (q0 qh : Bool) (w : World) (E0 : Hid (∀ w : World, (Op.equalIn 10000 24 (.agg (wa f)) (.agg (wa 0))).run Try.prog w = .ok q0 w)) (Eh : Hid (∀ w : World, (Op.equalIn 10000 24 (.agg (wa h)) (.agg (wa 0))).run Try.prog w = .ok qh w)) : Calls Try.prog 39 #[wd f, wd h] w fun e w' => e = .returned (.int .i64 (cV q0 qh)) ∧ Below w.heap.size w w' := by
  have hs := wa_size
  obtain ⟨f0, f1, bW⟩ := boxes w f h
  have fo := fold_wa
  obtain ⟨W, hW⟩ : ∃ W, (w.alloc (.cells (wa f) 24)).alloc (.cells (wa h) 24) = W := ⟨_, rfl⟩
  rw [hW] at f0 f1 bW
  have HB := Lib.hid bW
  obtain ⟨p0, p1, p2, p3⟩ := wcells f0
  obtain ⟨r0, r1, r2, r3⟩ := wcells f1
  have KN := Lib.hid fun w => none_walk f q0 w E0
  have KM := Lib.hid fun w => none_walk h qh w Eh
  clear bW E0 Eh
  cases q0 <;> cases qh <;>
  · go_enter Try.func39, Try.ntmps39
    go_upto_region 1 with fail
    clear hW
    go_wp2_with (go_at_call 38; first | (refine (KN.out _).mono ?_; rintro e w1 ⟨rfl, b1⟩; replace HB := Lib.hid (HB.out.trans (b1.mono HB.out.size)); have f3 := Below.stays b1 f1; clear b1; obtain ⟨s0, s1, s2, s3⟩ := wcells f3) | (refine (KM.out _).mono ?_; rintro e w2 ⟨rfl, b2⟩; replace HB := Lib.hid (HB.out.trans (b2.mono HB.out.size))))
    go_ret
    exact ⟨rfl, HB.out⟩
theorem restored_walk (f : Nat) (q0 : Bool) (w : World) (E0 : Hid (∀ w : World, (Op.equalIn 10000 24 (.agg (wa f)) (.agg (wa 0))).run Try.prog w = .ok q0 w)) : Calls Try.prog 40 #[wd f] w fun e w' => e = .returned (.int .i64 (if q0 then 19900 else 2800)) ∧ Below w.heap.size w w' := by
  have hs := wa_size
  have HB := Lib.hid ((Below.refl w.heap.size w).alloc (Nat.le_refl _) (.cells (wa f) 24))
  have KN := Lib.hid fun w => none_walk f q0 w E0
  cases q0 <;>
  · go_enter Try.func40, Try.ntmps40
    go_wp2_with (go_at_call 38; refine (KN.out _).mono ?_; rintro e w1 ⟨rfl, b1⟩; replace HB := Lib.hid (HB.out.trans (b1.mono HB.out.size)))
    go_ret
    exact ⟨rfl, HB.out⟩
end Go.Proofs.Ytdkjgpehlgejnaa
/- What writing a slot costs, and refunds: the code's functions. -/
namespace Go.Proofs.Ytdkjgpehlgejnaa
open Go.RowKit SmWord
set_option maxRecDepth 100000

set_option maxHeartbeats 1000000 in
theorem sprice_walk (f n x : Nat) (q1 q2 q3 : Bool) (w : World) (E1 : Hid (∀ w : World, (Op.equalIn 10000 24 (.agg (wa n)) (.agg (wa x))).run Try.prog w = .ok q1 w)) (E2 : Hid (∀ w : World, (Op.equalIn 10000 24 (.agg (wa f)) (.agg (wa n))).run Try.prog w = .ok q2 w)) (E3 : Hid (∀ w : World, (Op.equalIn 10000 24 (.agg (wa f)) (.agg (wa 0))).run Try.prog w = .ok q3 w)) :
    Calls Try.prog 33 #[wd f, wd n, wd x] w fun e w' => e = .returned (.int .u64 (if q1 || !q2 then 100 else if q3 then 20000 else 2900)) ∧ Below w.heap.size w w' := by
  have hs := wa_size
  obtain ⟨f0, f1, f2, bW⟩ := boxes3 w f n x
  have KN := Lib.hid fun w => none_walk f q3 w E3
  have fo := fold_wa
  have eg := Try.guardW
  have e1 := E1.out
  have e2 := E2.out
  obtain ⟨W, hW⟩ : ∃ W, bx3 w f n x = W := ⟨_, rfl⟩
  rw [hW] at f0 f1 f2
  have HB := Lib.hid (hW ▸ bW)
  clear bW E1 E2 E3
  unfold bx3 at hW
  cases q1 <;> cases q2 <;> cases q3 <;>
  · go_enter Try.func33, Try.ntmps33
    go_upto_region 1 with fail
    clear hW
    obtain ⟨p0, p1, p2, p3⟩ := wcells f0
    obtain ⟨r0, r1, r2, r3⟩ := wcells f1
    obtain ⟨s0, s1, s2, s3⟩ := wcells f2
    go_wp2_with (go_at_call 38; refine (KN.out _).mono ?_; rintro e w1 ⟨rfl, b1⟩; replace HB := Lib.hid (HB.out.trans (b1.mono HB.out.size)))
    go_ret
    exact ⟨rfl, HB.out⟩
set_option maxHeartbeats 1000000 in
theorem srefund_walk (f n x : Nat) (q1 q2 : Bool) (cx cn rr : Int) (w : World) (hx0 : 0 ≤ cx) (hx1 : cx ≤ 4800) (hn0 : 0 ≤ cn) (hn1 : cn ≤ 4800) (hr0 : 0 ≤ rr) (hr1 : rr ≤ 19900) (E1 : Hid (∀ w : World, (Op.equalIn 10000 24 (.agg (wa n)) (.agg (wa x))).run Try.prog w = .ok q1 w)) (E2 : Hid (∀ w : World, (Op.equalIn 10000 24 (.agg (wa f)) (.agg (wa x))).run Try.prog w = .ok q2 w)) (KX : Hid (∀ w : World, Calls Try.prog 39 #[wd f, wd x] w fun e w' => e = .returned (.int .i64 cx) ∧ Below w.heap.size w w')) (KN : Hid (∀ w : World, Calls Try.prog 39 #[wd f, wd n] w fun e w' => e = .returned (.int .i64 cn) ∧ Below w.heap.size w w')) (KR : Hid (∀ w : World, Calls Try.prog 40 #[wd f] w fun e w' => e = .returned (.int .i64 rr) ∧ Below w.heap.size w w')) :
    Calls Try.prog 34 #[wd f, wd n, wd x] w fun e w' => e = .returned (.int .i64 (if q1 then 0 else cx - cn + (if q2 then rr else 0))) ∧ Below w.heap.size w w' := by
  have hs := wa_size
  obtain ⟨f0, f1, f2, bW⟩ := boxes3 w f n x
  have fo := fold_wa
  have eg := Try.guardW
  have e1 := E1.out
  have e2 := E2.out
  obtain ⟨W, hW⟩ : ∃ W, bx3 w f n x = W := ⟨_, rfl⟩
  rw [hW] at f0 f1 f2
  have HB := Lib.hid (hW ▸ bW)
  clear bW E1 E2
  unfold bx3 at hW
  cases q1 with
  | true =>
    go_enter Try.func34, Try.ntmps34
    go_upto_region 1 with fail
    clear hW
    obtain ⟨p0, p1, p2, p3⟩ := wcells f0
    obtain ⟨r0, r1, r2, r3⟩ := wcells f1
    obtain ⟨s0, s1, s2, s3⟩ := wcells f2
    go_wp2_with fail
    go_ret
    exact ⟨rfl, HB.out⟩
  | false =>
    cases q2 <;>
    · go_enter Try.func34, Try.ntmps34
      go_upto_region 1 with fail
      clear hW
      have c0 := wcells f0
      have c1 := wcells f1
      have c2 := wcells f2
      obtain ⟨p0, p1, p2, p3⟩ := c0
      obtain ⟨r0, r1, r2, r3⟩ := c1
      obtain ⟨s0, s1, s2, s3⟩ := c2
      go_upto_region 3 with fail
      clear p0 p1 p2 p3 r0 r1 r2 r3 s0 s1 s2 s3
      have gf0 := fun g : Ext W => g.word f0
      have gf1 := fun g : Ext W => g.word f1
      have gf2 := fun g : Ext W => g.word f2
      refine region_ext (by kernel_rfl) (by kernel_rfl) ?_
      repeat (go_big_quiet_step ((go_at_call 39; first | with_reducible exact calls_ext (KX.out _) | with_reducible exact calls_ext (KN.out _))))
      refine wpQuiet_nil ?_
      rintro _ ⟨g, rfl⟩
      obtain ⟨p0, p1, p2, p3⟩ := gf0 g
      obtain ⟨s0, s1, s2, s3⟩ := gf2 g
      replace HB := Lib.hid (HB.out.trans (g.below.mono HB.out.size))
      clear gf0 gf1 gf2
      generalize g.on = W1 at *
      go_wp2_with (go_at_call 40; refine (KR.out _).mono ?_; rintro e w1 ⟨rfl, b1⟩; replace HB := Lib.hid (HB.out.trans (b1.mono HB.out.size)))
      go_ret
      exact ⟨by simp, HB.out⟩
theorem sC_bool (f n x : Nat) : (if (decide (n = x) || !decide (f = n)) = true then (100 : Int) else if decide (f = 0) = true then 20000 else 2900) = ((sC f n x : Nat) : Int) := by
  unfold sC
  have e : (decide (n = x) || !decide (f = n)) = true ↔ (n = x ∨ f ≠ n) := by simp
  by_cases h : n = x ∨ f ≠ n
  · rw [if_pos (e.2 h), if_pos h]; rfl
  · rw [if_neg (fun k => h (e.1 k)), if_neg h]
    by_cases c : f = 0
    · rw [if_pos (decide_eq_true c), if_pos c]; rfl
    · rw [if_neg (by simp [c]), if_neg c]; rfl
theorem when_wd (p : Bool) (c : Nat) (w : World) : Calls Try.prog 32 #[.bool p, .int .u64 (c : Int)] w fun e w' => e = .returned (.int .u64 (((if p then c else 0 : Nat)) : Int)) ∧ Below w.heap.size w w' :=
  (when_walk p c w).mono fun e w' ⟨h1, h2⟩ => ⟨by rw [h1]; cases p <;> rfl, h2 ▸ Below.refl _ _⟩
set_option maxHeartbeats 1000000 in
theorem sstore_core (f n x : Nat) (cold : Bool) (c p : Nat) (r : Int) (w : World) (hc : c ≤ 2100) (hp : p ≤ 20000) (KW : Hid (∀ w : World, Calls Try.prog 32 #[.bool cold, .int .u64 2100] w fun e w' => e = .returned (.int .u64 (c : Int)) ∧ Below w.heap.size w w')) (KP : Hid (∀ w : World, Calls Try.prog 33 #[wd f, wd n, wd x] w fun e w' => e = .returned (.int .u64 (p : Int)) ∧ Below w.heap.size w w')) (KR : Hid (∀ w : World, Calls Try.prog 34 #[wd f, wd n, wd x] w fun e w' => e = .returned (.int .i64 r) ∧ Below w.heap.size w w')) :
    Calls Try.prog 22 #[wd f, wd n, wd x, .bool cold] w fun e w' => e = .returned (.tuple #[.int .u64 ((c + p : Nat) : Int), .int .i64 r]) ∧ Below w.heap.size w w' := by
  have hs := wa_size
  obtain ⟨f0, f1, f2, bW⟩ := boxes3 w f n x
  have fo := fold_wa
  obtain ⟨W, hW⟩ : ∃ W, bx3 w f n x = W := ⟨_, rfl⟩
  rw [hW] at f0 f1 f2
  have HB := Lib.hid (hW ▸ bW)
  clear bW
  unfold bx3 at hW
  go_enter Try.func22, Try.ntmps22
  go_upto_region 1 with fail
  clear hW
  have gf0 := fun g : Ext W => g.word f0
  have gf1 := fun g : Ext W => g.word f1
  have gf2 := fun g : Ext W => g.word f2
  refine region_ext (by kernel_rfl) (by kernel_rfl) ?_
  repeat (go_big_quiet_step (first | (go_at_call 32; with_reducible exact calls_ext (KW.out _)) | (go_at_call 33; with_reducible exact calls_ext (KP.out _)) | (go_at_call 34; with_reducible exact calls_ext (KR.out _))))
  refine wpQuiet_nil ?_
  rintro _ ⟨g, rfl⟩
  replace HB := Lib.hid (HB.out.trans (g.below.mono HB.out.size))
  go_wp2_with fail
  go_ret2
  exact ⟨by simp, HB.out⟩
/-- What a store costs, and refunds. -/
theorem sstore_wd (f n x : Nat) (cold : Bool) (w : World) (hf : f < M) (hn : n < M) (hx : x < M) :
    Calls Try.prog 22 #[wd f, wd n, wd x, .bool cold] w fun e w' => e = .returned (.tuple #[.int .u64 (((if cold then 2100 else 0) + sC f n x : Nat) : Int), .int .i64 (sB f n x)]) ∧ Below w.heap.size w w' := by
  have E : ∀ {a b : Nat}, a < M → b < M → Hid (∀ w : World, (Op.equalIn 10000 24 (.agg (wa a)) (.agg (wa b))).run Try.prog w = .ok (decide (a = b)) w) := fun ha hb => Lib.hid fun w => by
    rw [equal_wa, Nat.mod_eq_of_lt ha, Nat.mod_eq_of_lt hb]
  have h0 : 0 < M := by decide
  have c1 : ∀ h, h < M → Hid (∀ w : World, Calls Try.prog 39 #[wd f, wd h] w fun e w' => e = .returned (.int .i64 (clr f h)) ∧ Below w.heap.size w w') := fun h hh => Lib.hid fun w => by
    have := cleared_walk f h _ _ w (E hf h0) (E hh h0)
    have e : cV (decide (f = 0)) (decide (h = 0)) = clr f h := by unfold cV clr; by_cases a : f = 0 <;> by_cases b : h = 0 <;> simp [a, b]
    rwa [e] at this
  have c2 : Hid (∀ w : World, Calls Try.prog 40 #[wd f] w fun e w' => e = .returned (.int .i64 (rst f)) ∧ Below w.heap.size w w') := Lib.hid fun w => by
    have := restored_walk f _ w (E hf h0)
    have e : (if decide (f = 0) = true then (19900 : Int) else 2800) = rst f := by unfold rst; by_cases a : f = 0 <;> simp [a]
    rwa [e] at this
  refine sstore_core f n x cold _ (sC f n x) (sB f n x) w ?_ (sC_le f n x) (Lib.hid fun w => when_wd cold 2100 w) (Lib.hid fun w => ?_) (Lib.hid fun w => ?_)
  · split <;> omega
  · have := sprice_walk f n x _ _ _ w (E hn hx) (E hf hn) (E hf h0)
    rw [sC_bool] at this
    exact this
  · have hcx := clr_le f x
    have hcn := clr_le f n
    have hr := rst_le f
    have := srefund_walk f n x _ _ _ _ _ w hcx.1 hcx.2 hcn.1 hcn.2 (by omega) hr.2 (E hn hx) (E hf hx) (c1 x hx) (c1 n hn) c2
    have e : (if decide (n = x) = true then (0 : Int) else clr f x - clr f n + (if decide (f = x) = true then rst f else 0)) = sB f n x := by unfold sB; simp
    rwa [e] at this
end Go.Proofs.Ytdkjgpehlgejnaa
/- The chapter's examples. -/
namespace Go.Proofs.Ytdkjgpehlgejnaa
open Go.RowKit SmWord
set_option maxRecDepth 100000

theorem fx_a (w : World) : Calls Try.prog 22 #[.agg #[.int .u64 0, .int .u64 0, .int .u64 0, .int .u64 0], .agg #[.int .u64 0, .int .u64 0, .int .u64 0, .int .u64 0], .agg #[.int .u64 1, .int .u64 0, .int .u64 0, .int .u64 0], .bool true] w fun e w' => e = .returned (.tuple #[.int .u64 22100, .int .i64 0]) ∧ Below w.heap.size w w' :=
  sstore_wd 0 0 1 true w (by decide) (by decide) (by decide)
theorem fx_b (w : World) : Calls Try.prog 22 #[.agg #[.int .u64 1, .int .u64 0, .int .u64 0, .int .u64 0], .agg #[.int .u64 1, .int .u64 0, .int .u64 0, .int .u64 0], .agg #[.int .u64 0, .int .u64 0, .int .u64 0, .int .u64 0], .bool false] w fun e w' => e = .returned (.tuple #[.int .u64 2900, .int .i64 4800]) ∧ Below w.heap.size w w' :=
  sstore_wd 1 1 0 false w (by decide) (by decide) (by decide)
theorem fx_p (w : World) : Calls Try.prog 26 #[.int .u64 6400] w fun e w' => e = .returned (.int .u64 6300) ∧ w = w' := part_walk 6400 w (by simp only [B]; omega)
theorem fx_r (w : World) : Calls Try.prog 27 #[.int .u64 100, .int .u64 50] w fun e w' => e = .returned (.int .u64 20) ∧ w = w' := refund_walk 100 50 w (by simp only [B]; omega) (by simp only [B]; omega)
theorem gfixed_walk (w : World) : Calls Try.prog 10 #[] w fun e w' => e = .returned (.bool true) ∧ Below w.heap.size w w' := by
  have KA := Lib.hid fx_a
  have KB := Lib.hid fx_b
  have KP := Lib.hid fx_p
  have KR := Lib.hid fx_r
  go_enter Try.func10, Try.ntmps10
  go_upto_region 2 with (go_at_call 22; refine (KA.out _).mono ?_; rintro e w1 ⟨rfl, b1⟩; have HB1 := Lib.hid b1; clear b1)
  go_upto_region 3 with (go_at_call 22; refine (KB.out _).mono ?_; rintro e w2 ⟨rfl, b2⟩; have HB := Lib.hid (HB1.out.trans (b2.mono HB1.out.size)); clear b2)
  go_wp2_with (first
    | (go_at_call 26; refine (KP.out _).mono ?_; rintro e w3 ⟨rfl, rfl⟩)
    | (go_at_call 27; refine (KR.out _).mono ?_; rintro e w4 ⟨rfl, rfl⟩))
  go_ret
  exact ⟨rfl, HB.out⟩
end Go.Proofs.Ytdkjgpehlgejnaa
/- The statements on accounts and on parts: their walks. -/
namespace Go.Proofs.Ytdkjgpehlgejnaa
open Go.RowKit SmWord
set_option maxRecDepth 100000

theorem account_walk (p : Bool) (w : World) : Calls Try.prog 18 #[.bool p] w fun e w' => e = .returned (.int .u64 (if p then 2600 else 100)) ∧ w = w' := by
  cases p <;>
  · go_enter Try.func18, Try.ntmps18
    go_wp2_with fail
    go_ret
    exact ⟨rfl, rfl⟩
theorem sload_walk (p : Bool) (w : World) : Calls Try.prog 19 #[.bool p] w fun e w' => e = .returned (.int .u64 (if p then 2100 else 100)) ∧ w = w' := by
  cases p <;>
  · go_enter Try.func19, Try.ntmps19
    go_wp2_with fail
    go_ret
    exact ⟨rfl, rfl⟩
/-- What a call costs. -/
def caV (p v f : Bool) : Int := (if p then 2600 else 100) + (if v then 9000 + (if f then 25000 else 0) else 0)
theorem call_walk (p v f : Bool) (w : World) : Calls Try.prog 20 #[.bool p, .bool v, .bool f] w fun e w' => e = .returned (.int .u64 (caV p v f)) ∧ w = w' := by
  have KA := Lib.hid (account_walk p)
  have KW := Lib.hid (when_walk f 25000)
  cases p <;> cases v <;> cases f <;>
  · go_enter Try.func20, Try.ntmps20
    go_wp2_with (first
      | (go_at_call 18; refine (KA.out _).mono ?_; rintro e w1 ⟨rfl, rfl⟩)
      | (go_at_call 32; refine (KW.out _).mono ?_; rintro e w2 ⟨rfl, rfl⟩))
    go_ret
    exact ⟨rfl, rfl⟩
/-- What an account's end costs. -/
def deV (p f : Bool) : Int := 5000 + (if p then 2600 else 0) + (if f then 25000 else 0)
theorem destroy_walk (p f : Bool) (w : World) : Calls Try.prog 21 #[.bool p, .bool f] w fun e w' => e = .returned (.int .u64 (deV p f)) ∧ w = w' := by
  have KA := Lib.hid (when_walk p 2600)
  have KW := Lib.hid (when_walk f 25000)
  cases p <;> cases f <;>
  · go_enter Try.func21, Try.ntmps21
    go_upto_region 1 with fail
    go_wp2_with (go_at_call 32; first | (refine (KA.out _).mono ?_; rintro e w1 ⟨rfl, rfl⟩) | (refine (KW.out _).mono ?_; rintro e w2 ⟨rfl, rfl⟩))
    go_ret
    exact ⟨rfl, rfl⟩
set_option maxHeartbeats 2000000 in
theorem accounts_walk (p v f : Bool) (w : World) : Calls Try.prog 4 #[.bool p, .bool v, .bool f] w fun e w' => e = .returned (.bool true) ∧ Below w.heap.size w w' := by
  have KF := Lib.hid gfixed_walk
  have KA := Lib.hid (account_walk p)
  have KS := Lib.hid (sload_walk p)
  have KC := Lib.hid (call_walk p v f)
  have KD := Lib.hid (destroy_walk p f)
  cases p <;> cases v <;> cases f <;>
  · simp only [caV, deV, if_true, if_false, Bool.false_eq_true, Int.reduceAdd] at KA KS KC KD
    go_enter Try.func4, Try.ntmps4
    go_wp2_with (first
      | (go_at_call 10; refine (KF.out _).mono ?_; rintro e w3 ⟨rfl, b3⟩; have HB := Lib.hid b3; clear b3)
      | (go_at_call 18; refine (KA.out _).mono ?_; rintro e w4 ⟨rfl, rfl⟩)
      | (go_at_call 19; refine (KS.out _).mono ?_; rintro e w5 ⟨rfl, rfl⟩)
      | (go_at_call 20; refine (KC.out _).mono ?_; rintro e w6 ⟨rfl, rfl⟩)
      | (go_at_call 21; refine (KD.out _).mono ?_; rintro e w7 ⟨rfl, rfl⟩))
    go_ret
    exact ⟨rfl, HB.out⟩
set_option maxHeartbeats 1000000 in
theorem parts_walk (l u c : Nat) (w : World) (hl : l < B) (hu : u < B) (hc : c < B) : Calls Try.prog 8 #[.int .u64 (l : Int), .int .u64 (u : Int), .int .u64 (c : Int)] w fun e w' => e = .returned (.bool true) ∧ Below w.heap.size w w' := by
  have KF := Lib.hid gfixed_walk
  have KP := Lib.hid fun w => part_walk l w hl
  have KR := Lib.hid fun w => refund_walk u c w hu hc
  simp only [B] at hl hu hc
  have e1 : (l : Int) - (l : Int) / 64 = ((l - l / 64 : Nat) : Int) := by omega
  have d1 : decide (((l - l / 64 : Nat) : Int) ≤ (l : Int)) = true := by simp
  have d2 : decide (((min c (u / 5) : Nat) : Int) ≤ (u : Int)) = true := by rw [decide_eq_true_eq]; omega
  obtain ⟨q, hq⟩ : ∃ q, u / 5 = q := ⟨_, rfl⟩
  have e3 : (u : Int) / 5 = (q : Int) := by omega
  have hqu : q ≤ u := by omega
  rw [hq] at KR d2
  clear hq
  by_cases hlt : c < q
  · have d3 : decide (c < q) = true := decide_eq_true hlt
    have e2 : min c q = c := by omega
    have d4 : decide (c ≤ u) = true := decide_eq_true (by omega)
    rw [e2] at KR
    clear d2
    go_enter Try.func8, Try.ntmps8
    go_wp2_with (first
      | (go_at_call 10; refine (KF.out _).mono ?_; rintro e w3 ⟨rfl, b3⟩; have HB := Lib.hid b3; clear b3)
      | (go_at_call 26; refine (KP.out _).mono ?_; rintro e w4 ⟨rfl, rfl⟩)
      | (go_at_call 27; refine (KR.out _).mono ?_; rintro e w5 ⟨rfl, rfl⟩))
    go_ret
    exact ⟨rfl, HB.out⟩
  · have d3 : decide (c < q) = false := decide_eq_false hlt
    have e2 : min c q = q := by omega
    have d4 : decide (q ≤ u) = true := decide_eq_true hqu
    rw [e2] at KR
    clear d2
    go_enter Try.func8, Try.ntmps8
    go_wp2_with (first
      | (go_at_call 10; refine (KF.out _).mono ?_; rintro e w3 ⟨rfl, b3⟩; have HB := Lib.hid b3; clear b3)
      | (go_at_call 26; refine (KP.out _).mono ?_; rintro e w4 ⟨rfl, rfl⟩)
      | (go_at_call 27; refine (KR.out _).mono ?_; rintro e w5 ⟨rfl, rfl⟩))
    go_ret
    exact ⟨rfl, HB.out⟩
end Go.Proofs.Ytdkjgpehlgejnaa
