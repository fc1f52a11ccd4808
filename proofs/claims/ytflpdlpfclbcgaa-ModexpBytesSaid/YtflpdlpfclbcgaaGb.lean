/- The statement on noughts ahead: its walk. -/
import Derived.Test.YtflpdlpfclbcgaaGa
namespace Go.Proofs.Ytflpdlpfclbcgaa
open Go.RowKit SmWord
set_option maxRecDepth 100000

theorem empty_own (w : World) {base : Nat} (hb : base ≤ w.heap.size) : (w.alloc (.cells #[] 5)).ownsRow base 5 1 (.slice (some ⟨w.heap.size, 0, none⟩) 0 0) 0 [] :=
  ⟨rfl, .inr ⟨w.heap.size, 0, #[], rfl, hb, heap_alloc_new _ _, Nat.le_refl _, Nat.zero_le _, rfl, rfl⟩⟩
/-- k noughts, then f. -/
def ex (k : Nat) (f : Nat → Nat) : Nat → Nat := fun i => if i < k then 0 else f (i - k)
theorem ex_lt {k n : Nat} {f : Nat → Nat} (h : ∀ i, i < n → f i < 256) : ∀ i, i < k + n → ex k f i < 256 := fun i hi => by
  unfold ex
  split
  · decide
  · exact h _ (by omega)
theorem bb_ex (k n : Nat) (f : Nat → Nat) : bb (fun _ => 0) k ++ bb f n = bb (ex k f) (k + n) := by
  apply List.ext_getElem?
  intro i
  by_cases h : i < k + n
  · rw [bb_get _ h]
    by_cases hk : i < k
    · rw [List.getElem?_append_left (by rw [bb_length]; exact hk), bb_get _ hk, ex, if_pos hk]
    · rw [List.getElem?_append_right (by rw [bb_length]; omega), bb_length, bb_get _ (by omega), ex, if_neg hk]
  · rw [List.getElem?_eq_none (by rw [List.length_append, bb_length, bb_length]; omega), List.getElem?_eq_none (by rw [bb_length]; omega)]
theorem bs_ex (k n : Nat) (f : Nat → Nat) : bs (fun _ => 0) k ++ bs f n = bs (ex k f) (k + n) := by
  unfold bs
  apply List.ext_getElem?
  intro i
  simp only [List.getElem?_append, List.getElem?_map, List.length_map, List.length_range]
  by_cases h : i < k + n
  · rw [List.getElem?_range h]
    by_cases hk : i < k
    · rw [if_pos hk, List.getElem?_range hk]
      simp [ex, hk]
    · rw [if_neg hk, List.getElem?_range (by omega)]
      simp [ex, hk]
  · rw [if_neg (by omega), List.getElem?_eq_none (by simp; omega), List.getElem?_eq_none (by simp; omega)]
    rfl
theorem bvl_ex (k n : Nat) (f : Nat → Nat) : bvl (ex k f) (k + n) = bvl f n := by
  induction n with
  | zero =>
    have : ∀ j, j ≤ k → bvl (ex k f) j = 0 := fun j => by
      induction j with
      | zero => intro _; rfl
      | succ j ih =>
        intro h
        rw [bvl_succ, ih (by omega), ex, if_pos (by omega)]
    exact this k (Nat.le_refl _)
  | succ n ih =>
    rw [← Nat.add_assoc, bvl_succ, bvl_succ, ih, ex, if_neg (by omega), show k + n - k = n by omega]
theorem pw_small {b e m j : Nat} (h : m < 256 ^ j) : pw b e m < 256 ^ j := by
  by_cases h0 : m = 0
  · subst h0
    rw [pw_none]
    exact h
  · exact Nat.lt_trans (pw_lt h0) h
theorem ex_dig {V n : Nat} (k : Nat) (hV : V < 256 ^ n) : ∀ i, i < k + n → dig V (k + n - 1 - i) = ex k (fun i => dig V (n - 1 - i)) i := fun i hi => by
  unfold ex
  split
  · unfold dig
    rw [Nat.div_eq_of_lt (Nat.lt_of_lt_of_le hV (Nat.pow_le_pow_right (by decide) (by omega)))]
  · exact congrArg (dig V) (by omega)
theorem str_app (a b : List UInt8) : str a ++ str b = str (a ++ b) := by
  apply ByteArray.ext
  show (str a ++ str b).data = (str (a ++ b)).data
  rw [ByteArray.data_append]
  simp [str]
set_option maxHeartbeats 4000000 in
theorem noughts_near (n1 n2 n3 c1 c2 c3 z k : Nat) (A1 A2 A3 : Option Addr) (f1 f2 f3 : Nat → Nat) (w : World) (hz : z < 256) (hk : z % 8 = k) (h1 : n1 + k ≤ 64) (h2 : n2 + k ≤ 64) (h3 : n3 + k ≤ 64) (a1 : A1 = none → n1 = 0 ∧ c1 = 0) (a2 : A2 = none → n2 = 0 ∧ c2 = 0) (a3 : A3 = none → n3 = 0 ∧ c3 = 0) (s1 : Sl w A1 n1 f1) (s2 : Sl w A2 n2 f2) (s3 : Sl w A3 n3 f3) :
    Calls Try.prog 5 #[.slice A1 n1 c1, .slice A2 n2 c2, .slice A3 n3 c3, .int .u8 (z : Int)] w fun e w' => e = .returned (.bool true) ∧ Below w.heap.size w w' := by
  have hmk := Try.make_bytes k (by omega)
  have hw1 : IntKind.i64.wrap (z : Int) = (z : Int) := by rw [IntKind.wrap_i64]; omega
  have hw2 : (z : Int).tmod 8 = (k : Int) := by rw [Int.tmod_eq_emod_of_nonneg (by omega)]; omega
  go_enter Try.func5, Try.ntmps5
  go_wp2_with fail
  have b0 : Below w.heap.size w (w.alloc (.cells (arr .u8 k fun _ => 0) 5)) := (Below.refl _ _).alloc (Nat.le_refl _) _
  have s0 : Sl (w.alloc (.cells (arr .u8 k fun _ => 0) 5)) (some ⟨w.heap.size, 0, none⟩) k (fun _ => 0) := sl_cells (F := fun _ => 0) (heap_alloc_new _ _) fun _ _ => by decide
  replace s1 := s1.below b0
  replace s2 := s2.below b0
  replace s3 := s3.below b0
  generalize w.alloc (.cells (arr .u8 k fun _ => 0) 5) = W at *
  have HV := bvl_lt s3.small
  generalize hVd : pw (bvl f1 n1) (bvl f2 n2) (bvl f3 n3) = V at *
  have hV : V < 256 ^ n3 := by rw [← hVd]; exact pw_small HV
  have HP := pow_walk n1 n2 n3 c1 c2 c3 A1 A2 A3 f1 f2 f3 W (by omega) (by omega) (by omega) s1 s2 s3
  rw [hVd] at HP
  refine HP.mono ?_
  intro e w1 hp
  obtain ⟨X, rfl, _, hs, b1⟩ := powIs_sl hp
  clear hp HP hmk hw1 hw2 HV
  have HS1 := Lib.hid (s1.below b1)
  have HS2 := Lib.hid (s2.below b1)
  have HS3 := Lib.hid (s3.below b1)
  have HS0 := Lib.hid (s0.below b1)
  have HX := Lib.hid hs
  have HB := Lib.hid (b0.trans (b1.mono b0.size))
  clear s0 s1 s2 s3 hs b0 b1
  have e1 := empty_own w1 (Nat.le_refl _)
  have be1 : Below w1.heap.size w1 (w1.alloc (.cells #[] 5)) := (Below.refl _ _).alloc (Nat.le_refl _) _
  have z1 : w1.heap.size ≤ (w1.alloc (.cells #[] 5)).heap.size := be1.size
  have S1 := HS0.out.below be1
  go_wp2_with (at_builtin; refine append_sl rfl _ _ rfl w1.heap.size _ 0 [] rfl e1 (some ⟨w.heap.size, 0, none⟩) k k (fun _ => 0) rfl (fun h => by cases h) S1 (by omega) z1 ?_; intro v1 x1 o1 g1; refine Hid.out ?_)
  have bx1 : Below w1.heap.size w1 x1 := be1.grown g1 z1 (fun b hb' => (e1.lt b hb').1)
  have S1' := HS1.out.below bx1
  have y1 : w1.heap.size ≤ x1.heap.size := bx1.size
  rw [Nat.zero_add, List.nil_append] at o1
  clear e1 be1 z1 S1 g1
  refine Lib.hid ?_
  go_wp2_with (at_builtin; refine append_sl rfl _ _ rfl w1.heap.size _ k _ rfl o1 A1 n1 c1 f1 rfl a1 S1' (by omega) y1 ?_; intro u1 t1 p1 q1; refine Hid.out ?_)
  have bt1 : Below w1.heap.size w1 t1 := bx1.grown q1 y1 (fun b hb' => (o1.lt b hb').1)
  rw [bb_ex] at p1
  obtain ⟨Y1, d1, rfl, _, _, sy1⟩ := own_sl p1 (ex_lt HS1.out.small)
  have HY1 := Lib.hid sy1
  replace HS0 := Lib.hid (HS0.out.below bt1)
  replace HS1 := Lib.hid (HS1.out.below bt1)
  replace HS2 := Lib.hid (HS2.out.below bt1)
  replace HS3 := Lib.hid (HS3.out.below bt1)
  replace HX := Lib.hid (HX.out.below bt1)
  replace HB := Lib.hid (HB.out.trans (bt1.mono HB.out.size))
  clear o1 bx1 S1' y1 q1 p1 bt1 sy1
  refine Lib.hid ?_
  have e2 := empty_own t1 (Nat.le_refl _)
  have be2 : Below t1.heap.size t1 (t1.alloc (.cells #[] 5)) := (Below.refl _ _).alloc (Nat.le_refl _) _
  have z2 : t1.heap.size ≤ (t1.alloc (.cells #[] 5)).heap.size := be2.size
  have S2 := HS0.out.below be2
  go_wp2_with (at_builtin; refine append_sl rfl _ _ rfl t1.heap.size _ 0 [] rfl e2 (some ⟨w.heap.size, 0, none⟩) k k (fun _ => 0) rfl (fun h => by cases h) S2 (by omega) z2 ?_; intro v2 x2 o2 g2; refine Hid.out ?_)
  have bx2 : Below t1.heap.size t1 x2 := be2.grown g2 z2 (fun b hb' => (e2.lt b hb').1)
  have S2' := HS2.out.below bx2
  have y2 : t1.heap.size ≤ x2.heap.size := bx2.size
  rw [Nat.zero_add, List.nil_append] at o2
  clear e2 be2 z2 S2 g2
  refine Lib.hid ?_
  go_wp2_with (at_builtin; refine append_sl rfl _ _ rfl t1.heap.size _ k _ rfl o2 A2 n2 c2 f2 rfl a2 S2' (by omega) y2 ?_; intro u2 t2 p2 q2; refine Hid.out ?_)
  have bt2 : Below t1.heap.size t1 t2 := bx2.grown q2 y2 (fun b hb' => (o2.lt b hb').1)
  rw [bb_ex] at p2
  obtain ⟨Y2, d2, rfl, _, _, sy2⟩ := own_sl p2 (ex_lt HS2.out.small)
  have HY2 := Lib.hid sy2
  replace HY1 := Lib.hid (HY1.out.below bt2)
  replace HS0 := Lib.hid (HS0.out.below bt2)
  replace HS1 := Lib.hid (HS1.out.below bt2)
  replace HS2 := Lib.hid (HS2.out.below bt2)
  replace HS3 := Lib.hid (HS3.out.below bt2)
  replace HX := Lib.hid (HX.out.below bt2)
  replace HB := Lib.hid (HB.out.trans (bt2.mono HB.out.size))
  clear o2 bx2 S2' y2 q2 p2 bt2 sy2
  refine Lib.hid ?_
  have e3 := empty_own t2 (Nat.le_refl _)
  have be3 : Below t2.heap.size t2 (t2.alloc (.cells #[] 5)) := (Below.refl _ _).alloc (Nat.le_refl _) _
  have z3 : t2.heap.size ≤ (t2.alloc (.cells #[] 5)).heap.size := be3.size
  have S3 := HS0.out.below be3
  go_wp2_with (at_builtin; refine append_sl rfl _ _ rfl t2.heap.size _ 0 [] rfl e3 (some ⟨w.heap.size, 0, none⟩) k k (fun _ => 0) rfl (fun h => by cases h) S3 (by omega) z3 ?_; intro v3 x3 o3 g3; refine Hid.out ?_)
  have bx3 : Below t2.heap.size t2 x3 := be3.grown g3 z3 (fun b hb' => (e3.lt b hb').1)
  have S3' := HS3.out.below bx3
  have y3 : t2.heap.size ≤ x3.heap.size := bx3.size
  rw [Nat.zero_add, List.nil_append] at o3
  clear e3 be3 z3 S3 g3
  refine Lib.hid ?_
  go_wp2_with (at_builtin; refine append_sl rfl _ _ rfl t2.heap.size _ k _ rfl o3 A3 n3 c3 f3 rfl a3 S3' (by omega) y3 ?_; intro u3 t3 p3 q3; refine Hid.out ?_)
  have bt3 : Below t2.heap.size t2 t3 := bx3.grown q3 y3 (fun b hb' => (o3.lt b hb').1)
  rw [bb_ex] at p3
  obtain ⟨Y3, d3, rfl, _, _, sy3⟩ := own_sl p3 (ex_lt HS3.out.small)
  have HY3 := Lib.hid sy3
  replace HY1 := Lib.hid (HY1.out.below bt3)
  replace HY2 := Lib.hid (HY2.out.below bt3)
  replace HS0 := Lib.hid (HS0.out.below bt3)
  replace HS1 := Lib.hid (HS1.out.below bt3)
  replace HS2 := Lib.hid (HS2.out.below bt3)
  replace HS3 := Lib.hid (HS3.out.below bt3)
  replace HX := Lib.hid (HX.out.below bt3)
  replace HB := Lib.hid (HB.out.trans (bt3.mono HB.out.size))
  clear o3 bx3 S3' y3 q3 p3 bt3 sy3
  refine Lib.hid ?_
  go_wp2_with fail
  have HP := pow_walk (k + n1) (k + n2) (k + n3) d1 d2 d3 Y1 Y2 Y3 (ex k f1) (ex k f2) (ex k f3) t3 (by omega) (by omega) (by omega) HY1.out HY2.out HY3.out
  rw [bvl_ex, bvl_ex, bvl_ex, hVd] at HP
  refine HP.mono ?_
  intro e t4 hp
  obtain ⟨Y, rfl, _, hs, b1⟩ := powIs_sl hp
  clear hp HP HY1 HY2 HY3 HS1 HS2 HS3
  have HY := Lib.hid hs
  replace HS0 := Lib.hid (HS0.out.below b1)
  replace HX := Lib.hid (HX.out.below b1)
  replace HB := Lib.hid (HB.out.trans (b1.mono HB.out.size))
  clear hs b1
  go_wp2_with fail
  refine (fixed_walk _).mono ?_
  rintro e t5 ⟨rfl, b1⟩
  have cy := conv_sl (c := k + n3) (HY.out.below b1)
  have c0 := conv_sl (c := k) (HS0.out.below b1)
  have cx := conv_sl (c := n3) (HX.out.below b1)
  rw [bs_congr (ex_dig k hV), ← bs_ex, ← str_app] at cy
  have HB2 := Lib.hid (HB.out.trans (b1.mono HB.out.size))
  clear HY HS0 HX HB b1
  have hsum : ¬ 9223372036854775807 < (str (bs (fun _ => 0) k)).size + (str (bs (fun i => dig V (n3 - 1 - i)) n3)).size := by rw [str_size, str_size, bs_length, bs_length]; omega
  generalize str (bs (fun _ => 0) k) = S0 at *
  generalize str (bs (fun i => dig V (n3 - 1 - i)) n3) = SX at *
  clear hVd hV
  go_wp2_with fail
  go_ret
  exact ⟨rfl, HB2.out⟩
set_option maxHeartbeats 4000000 in
theorem noughts_far (n1 n2 n3 c1 c2 c3 z k : Nat) (x1 x2 x3 : Int) (A1 A2 A3 : Option Addr) (w : World) (hz : z < 256) (hk : z % 8 = k) (h1 : n1 ≤ maxLen) (h2 : n2 ≤ maxLen) (h3 : n3 ≤ maxLen)
    (e1 : IntKind.i64.wrap ((n1 : Int) + (k : Int)) = x1) (e2 : IntKind.i64.wrap ((n2 : Int) + (k : Int)) = x2) (e3 : IntKind.i64.wrap ((n3 : Int) + (k : Int)) = x3)
    (h : 64 < x1 ∨ 64 < x2 ∨ 64 < x3 ∨ 100 < n1 ∨ 100 < n2 ∨ 100 < n3) :
    Calls Try.prog 5 #[.slice A1 n1 c1, .slice A2 n2 c2, .slice A3 n3 c3, .int .u8 (z : Int)] w fun e w' => e = .returned (.bool true) ∧ Below w.heap.size w w' := by
  have hw1 : IntKind.i64.wrap (z : Int) = (z : Int) := by rw [IntKind.wrap_i64]; omega
  have hw2 : (z : Int).tmod 8 = (k : Int) := by rw [Int.tmod_eq_emod_of_nonneg (by omega)]; omega
  have l1 : n1 ≤ 9223372036854775807 := h1
  have l2 : n2 ≤ 9223372036854775807 := h2
  have l3 : n3 ≤ 9223372036854775807 := h3
  have fin : ∀ (K : Prop), (64 < x1 → K) → (¬ 64 < x1 → 64 < x2 → K) → (¬ 64 < x1 → ¬ 64 < x2 → 64 < x3 → K) → (¬ 64 < x1 → ¬ 64 < x2 → ¬ 64 < x3 → 100 < n1 → K) → (¬ 64 < x1 → ¬ 64 < x2 → ¬ 64 < x3 → ¬ 100 < n1 → 100 < n2 → K) → (¬ 64 < x1 → ¬ 64 < x2 → ¬ 64 < x3 → ¬ 100 < n1 → ¬ 100 < n2 → 100 < n3 → K) → K := fun K a b c d f g => by
    by_cases p1 : 64 < x1
    · exact a p1
    by_cases p2 : 64 < x2
    · exact b p1 p2
    by_cases p3 : 64 < x3
    · exact c p1 p2 p3
    by_cases p4 : 100 < n1
    · exact d p1 p2 p3 p4
    by_cases p5 : 100 < n2
    · exact f p1 p2 p3 p4 p5
    · exact g p1 p2 p3 p4 p5 (by omega)
  clear h h1 h2 h3
  refine fin _ (fun q1 => ?_) (fun q1 q2 => ?_) (fun q1 q2 q3 => ?_) (fun q1 q2 q3 q4 => ?_) (fun q1 q2 q3 q4 q5 => ?_) (fun q1 q2 q3 q4 q5 q6 => ?_)
  all_goals
    clear fin
    go_enter Try.func5, Try.ntmps5
    go_wp2_with fail
    refine (fixed_walk _).mono ?_
    rintro e w3 ⟨rfl, b3⟩
    go_wp2_with fail
    go_ret
    exact ⟨rfl, b3⟩
theorem noughts_walk (n1 n2 n3 c1 c2 c3 z : Nat) (A1 A2 A3 : Option Addr) (f1 f2 f3 : Nat → Nat) (w : World) (l1 : n1 ≤ maxLen) (l2 : n2 ≤ maxLen) (l3 : n3 ≤ maxLen) (a1 : A1 = none → n1 = 0 ∧ c1 = 0) (a2 : A2 = none → n2 = 0 ∧ c2 = 0) (a3 : A3 = none → n3 = 0 ∧ c3 = 0) (s1 : Sl w A1 n1 f1) (s2 : Sl w A2 n2 f2) (s3 : Sl w A3 n3 f3) (hz : z < 256) :
    Calls Try.prog 5 #[.slice A1 n1 c1, .slice A2 n2 c2, .slice A3 n3 c3, .int .u8 (z : Int)] w fun e w' => e = .returned (.bool true) ∧ Below w.heap.size w w' := by
  by_cases h : n1 + z % 8 ≤ 64 ∧ n2 + z % 8 ≤ 64 ∧ n3 + z % 8 ≤ 64
  · exact noughts_near n1 n2 n3 c1 c2 c3 z _ A1 A2 A3 f1 f2 f3 w hz rfl h.1 h.2.1 h.2.2 a1 a2 a3 s1 s2 s3
  · refine noughts_far n1 n2 n3 c1 c2 c3 z _ _ _ _ A1 A2 A3 w hz rfl l1 l2 l3 rfl rfl rfl ?_
    have w1 : n1 ≤ 100 → IntKind.i64.wrap ((n1 : Int) + ((z % 8 : Nat) : Int)) = n1 + ((z % 8 : Nat) : Int) := fun h => by rw [IntKind.wrap_i64]; omega
    have w2 : n2 ≤ 100 → IntKind.i64.wrap ((n2 : Int) + ((z % 8 : Nat) : Int)) = n2 + ((z % 8 : Nat) : Int) := fun h => by rw [IntKind.wrap_i64]; omega
    have w3 : n3 ≤ 100 → IntKind.i64.wrap ((n3 : Int) + ((z % 8 : Nat) : Int)) = n3 + ((z % 8 : Nat) : Int) := fun h => by rw [IntKind.wrap_i64]; omega
    by_cases p1 : 100 < n1
    · omega
    by_cases p2 : 100 < n2
    · omega
    by_cases p3 : 100 < n3
    · omega
    rw [w1 (by omega), w2 (by omega), w3 (by omega)]
    omega
end Go.Proofs.Ytflpdlpfclbcgaa
