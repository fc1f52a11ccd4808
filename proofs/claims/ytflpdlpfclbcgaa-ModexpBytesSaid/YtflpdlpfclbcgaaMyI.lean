/- The statement on a byte more behind the exponent: its walk. -/
import Derived.Test.YtflpdlpfclbcgaaGb
namespace Go.Proofs.Ytflpdlpfclbcgaa
open Go.RowKit SmWord
set_option maxRecDepth 100000

/-- n bytes, and one more. -/
def sn (f : Nat → Nat) (n z : Nat) : Nat → Nat := fun i => if i < n then f i else z
theorem sn_lt {f : Nat → Nat} {n z : Nat} (h : ∀ i, i < n → f i < 256) (hz : z < 256) : ∀ i, i < n + 1 → sn f n z i < 256 := fun i _ => by
  unfold sn
  split
  · exact h _ (by assumption)
  · exact hz
theorem bb_sn (f : Nat → Nat) (n z : Nat) : bb f n ++ [.int .u8 (z : Int)] = bb (sn f n z) (n + 1) := by
  have h : bb (sn f n z) n = bb f n := bb_congr fun i hi => by unfold sn; rw [if_pos hi]
  have e : bb (sn f n z) (n + 1) = bb (sn f n z) n ++ [.int .u8 ((sn f n z n : Nat) : Int)] := by simp [bb, List.range_succ]
  rw [e, h]
  unfold sn
  rw [if_neg (Nat.lt_irrefl n)]
theorem bvl_congr {f g : Nat → Nat} : ∀ n, (∀ i, i < n → f i = g i) → bvl f n = bvl g n := fun n => by
  induction n with
  | zero => intro _; rfl
  | succ n ih => intro h; rw [bvl_succ, bvl_succ, ih (fun i hi => h i (by omega)), h n (by omega)]
theorem bvl_sn (f : Nat → Nat) (n z : Nat) : bvl (sn f n z) (n + 1) = bvl f n * 256 + z := by
  rw [bvl_succ, bvl_congr n (f := sn f n z) (g := f) fun i hi => by unfold sn; rw [if_pos hi]]
  unfold sn
  rw [if_neg (Nat.lt_irrefl n)]
/-- A number's digits, the highest first, make the number. -/
theorem bvl_dig {V n : Nat} (h : V < 256 ^ n) : bvl (fun i => dig V (n - 1 - i)) n = V := by
  have h1 := bvl_lt (f := fun i => dig V (n - 1 - i)) (n := n) fun i _ => dig_lt _ _
  have h2 : ∀ k, k ≤ n → bvl (fun i => dig V (n - 1 - i)) k = V / 256 ^ (n - k) := fun k => by
    induction k with
    | zero => intro _; rw [Nat.sub_zero, Nat.div_eq_of_lt h]; rfl
    | succ k ih =>
      intro hk
      rw [bvl_succ, ih (by omega), show n - 1 - k = n - (k + 1) by omega, show n - k = n - (k + 1) + 1 by omega]
      have := dig_up V (n - (k + 1))
      omega
  have h3 := h2 n (Nat.le_refl _)
  rwa [Nat.sub_self, Nat.pow_zero, Nat.div_one] at h3
set_option maxHeartbeats 4000000 in
theorem bytes_far (n1 n2 n3 c1 c2 c3 z : Nat) (A1 A2 A3 : Option Addr) (w : World) (h1 : n1 ≤ maxLen) (h2 : n2 ≤ maxLen) (h3 : n3 ≤ maxLen) (b : Bool)
    (hb : Hid (decide (64 < n1 ∨ 64 < n2 ∨ 64 < n3) = b)) (h : b = true ∨ (b = false ∧ n2 = 64) ∨ (b = false ∧ n2 ≠ 64 ∧ n3 = 0)) :
    Calls Try.prog 4 #[.slice A1 n1 c1, .slice A2 n2 c2, .slice A3 n3 c3, .int .u8 (z : Int)] w fun e w' => e = .returned (.bool true) ∧ Below w.heap.size w w' := by
  have HL := Lib.hid (fun w' g hs => long_walk n1 n2 n3 c1 c2 c3 g A1 A2 A3 w' h1 h2 h3 hs)
  have l2 : n2 ≤ 9223372036854775807 := h2
  have l3 : n3 ≤ 9223372036854775807 := h3
  rw [hb.out] at HL
  clear hb h1 h2 h3
  rcases h with rfl | ⟨rfl, rfl⟩ | ⟨rfl, hne, rfl⟩
  · go_enter Try.func4, Try.ntmps4
    go_wp2_with fail
    refine (HL.out _ _ (heap_alloc_new _ _)).mono ?_
    rintro e w1 ⟨rfl, rfl⟩
    go_wp2_with fail
    refine (fixed_walk _).mono ?_
    rintro e w1 ⟨rfl, b1⟩
    go_wp2_with fail
    go_ret
    exact ⟨rfl, ((Below.refl _ _).alloc (Nat.le_refl _) _).trans (b1.mono (by simp))⟩
  · go_enter Try.func4, Try.ntmps4
    go_wp2_with fail
    refine (HL.out _ _ (heap_alloc_new _ _)).mono ?_
    rintro e w1 ⟨rfl, rfl⟩
    go_wp2_with fail
    refine (fixed_walk _).mono ?_
    rintro e w1 ⟨rfl, b1⟩
    go_wp2_with fail
    go_ret
    exact ⟨rfl, ((Below.refl _ _).alloc (Nat.le_refl _) _).trans (b1.mono (by simp))⟩
  · have e2 : (((n2 : Nat) : Int) == 64) = false := by rw [beq_eq_false_iff_ne]; omega
    clear hne
    go_enter Try.func4, Try.ntmps4
    go_wp2_with fail
    refine (HL.out _ _ (heap_alloc_new _ _)).mono ?_
    rintro e w1 ⟨rfl, rfl⟩
    go_wp2_with fail
    refine (fixed_walk _).mono ?_
    rintro e w1 ⟨rfl, b1⟩
    go_wp2_with fail
    go_ret
    exact ⟨rfl, ((Below.refl _ _).alloc (Nat.le_refl _) _).trans (b1.mono (by simp))⟩
set_option maxHeartbeats 8000000 in
theorem bytes_near (n1 n2 n3 c1 c2 c3 z : Nat) (A1 A2 A3 : Option Addr) (f1 f2 f3 : Nat → Nat) (w : World) (l1 : n1 ≤ 64) (l2 : n2 < 64) (l3 : n3 ≤ 64) (l0 : 0 < n3) (hz : z < 256) (a2 : A2 = none → n2 = 0 ∧ c2 = 0) (s1 : Sl w A1 n1 f1) (s2 : Sl w A2 n2 f2) (s3 : Sl w A3 n3 f3) :
    Calls Try.prog 4 #[.slice A1 n1 c1, .slice A2 n2 c2, .slice A3 n3 c3, .int .u8 (z : Int)] w fun e w' => e = .returned (.bool true) ∧ Below w.heap.size w w' := by
  have hm : 64 ≤ maxLen := by decide
  have HL := Lib.hid (fun w' g hs => long_walk n1 n2 n3 c1 c2 c3 g A1 A2 A3 w' (by omega) (by omega) (by omega) hs)
  rw [decide_eq_false (by omega)] at HL
  have HV3 := Lib.hid (bvl_lt s3.small)
  have HS1 := Lib.hid s1
  have HS2 := Lib.hid s2
  have HS3 := Lib.hid s3
  have e1 : (((n2 : Nat) : Int) == 64) = false := by rw [beq_eq_false_iff_ne]; omega
  have e2 : (((n3 : Nat) : Int) == 0) = false := by rw [beq_eq_false_iff_ne]; omega
  clear s1 s2 s3 hm
  go_enter Try.func4, Try.ntmps4
  go_wp2_with fail
  refine (HL.out _ _ (heap_alloc_new _ _)).mono ?_
  rintro e w1 ⟨rfl, rfl⟩
  have b1 : Below w.heap.size w (w.alloc (.cells #[.slice A1 n1 c1, .slice A2 n2 c2, .slice A3 n3 c3] 22)) := (Below.refl _ _).alloc (Nat.le_refl _) _
  generalize w.alloc (.cells #[.slice A1 n1 c1, .slice A2 n2 c2, .slice A3 n3 c3] 22) = w1 at *
  have HPX := Lib.hid (pow_walk n1 n2 n3 c1 c2 c3 A1 A2 A3 f1 f2 f3 w1 l1 (by omega) l3 (HS1.out.below b1) (HS2.out.below b1) (HS3.out.below b1))
  have BW := Lib.hid b1
  clear HL b1
  go_wp2_with fail
  refine (HPX.out).mono ?_
  intro e w2 hp
  obtain ⟨X, rfl, _, sx, b1⟩ := powIs_sl hp
  have HX := Lib.hid sx
  have BW2 := Lib.hid (BW.out.trans (b1.mono BW.out.size))
  clear HPX hp sx b1 BW e1 e2
  have e1 := empty_own w2 (Nat.le_refl _)
  have be1 : Below w2.heap.size w2 (w2.alloc (.cells #[] 5)) := (Below.refl _ _).alloc (Nat.le_refl _) _
  have z1 : w2.heap.size ≤ (w2.alloc (.cells #[] 5)).heap.size := be1.size
  have S2 := (HS2.out.below BW2.out).below be1
  go_wp2_with (at_builtin; refine append_sl rfl _ _ rfl w2.heap.size _ 0 [] rfl e1 A2 n2 c2 f2 rfl a2 S2 (by omega) z1 ?_; intro v1 x1 o1 q1; refine Hid.out ?_)
  have bx1 : Below w2.heap.size w2 x1 := be1.grown q1 z1 (fun b hb' => (e1.lt b hb').1)
  have y1 : w2.heap.size ≤ x1.heap.size := bx1.size
  rw [Nat.zero_add, List.nil_append] at o1
  clear e1 be1 z1 S2 q1
  refine Lib.hid ?_
  have hr1 := fun g hg => (o1.lt g hg).1
  go_wp2_with (at_builtin; refine append_one rfl _ _ rfl w2.heap.size _ n2 _ rfl (o1.alloc _) ⟨x1.heap.size, 0, none⟩ (z : Int) rfl (one_new _ _ _) (by omega) (by simp; omega) ?_; intro v2 x2 o2 q2; refine Hid.out ?_)
  have bx2 : Below w2.heap.size w2 x2 := (bx1.alloc (o := .cells #[.int .u8 ((z : Nat) : Int)] 5) y1).grown q2 (by simp; omega) (fun g hg => hr1 g hg)
  rw [bb_sn] at o2
  obtain ⟨Y, d, rfl, _, _, sy⟩ := own_sl o2 (sn_lt HS2.out.small hz)
  have BW := Lib.hid (BW2.out.trans (bx2.mono BW2.out.size))
  have HX2 := Lib.hid (HX.out.below bx2)
  have HPY := Lib.hid (pow_walk n1 (n2 + 1) n3 c1 d c3 A1 Y A3 f1 (sn f2 n2 z) f3 x2 l1 (by omega) l3 (HS1.out.below BW.out) sy (HS3.out.below BW.out))
  rw [bvl_sn] at HPY
  clear o1 o2 bx1 bx2 y1 q2 hr1 sy BW2 HX
  refine Lib.hid ?_
  go_wp2_with fail
  refine (HPY.out).mono ?_
  intro e w3 hp
  obtain ⟨P, rfl, _, sp, b1⟩ := powIs_sl hp
  have HY := Lib.hid sp
  have HX := Lib.hid (HX2.out.below b1)
  have BW2 := Lib.hid (BW.out.trans (b1.mono BW.out.size))
  clear HPY hp sp b1 BW HX2
  generalize hE : bvl f2 n2 = E at *
  generalize hXX : bvl f1 n1 = XX at *
  generalize hMo : bvl f3 n3 = Mo at *
  have HMo := Lib.hid hMo
  have HXX := Lib.hid hXX
  clear hE hXX hMo
  have h256 : bvl (fun i => if i = 0 then 1 else 0) 2 = 256 := by decide
  have hVX : bvl (fun i => dig (pw XX E Mo) (n3 - 1 - i)) n3 = pw XX E Mo := bvl_dig (pw_small HV3.out)
  have b1 : Below w3.heap.size w3 (w3.alloc (.cells #[.int .u8 1, .int .u8 0] 5)) := (Below.refl _ _).alloc (Nat.le_refl _) _
  have s10 : Sl (w3.alloc (.cells #[.int .u8 1, .int .u8 0] 5)) (some ⟨w3.heap.size, 0, none⟩) 2 (fun i => if i = 0 then 1 else 0) :=
    ⟨fun i _ => by split <;> decide, fun _ => ⟨w3.heap.size, 0, rfl, by simp, fun i hi => by
      have : i = 0 ∨ i = 1 := by omega
      rcases this with rfl | rfl
      · exact blk_cell (heap_alloc_new _ _) rfl
      · exact blk_cell (heap_alloc_new _ _) rfl⟩⟩
  have HPZ := Lib.hid (pow_walk n3 2 n3 n3 2 c3 X _ A3 _ _ f3 _ l3 (by omega) l3 (HX.out.below b1) s10 (HS3.out.below (BW2.out.trans (b1.mono BW2.out.size))))
  rw [hVX, h256, HMo.out] at HPZ
  clear s10 h256 hVX
  have HY2 := Lib.hid (HY.out.below b1)
  have BW := Lib.hid (BW2.out.trans (b1.mono BW2.out.size))
  clear b1 BW2 HY HX
  go_wp2_with fail
  generalize w3.alloc (.cells #[.int .u8 1, .int .u8 0] 5) = w4 at *
  refine (HPZ.out).mono ?_
  intro e w5 hp
  obtain ⟨Z, rfl, _, sz, b1⟩ := powIs_sl hp
  have HZ := Lib.hid sz
  have HY := Lib.hid (HY2.out.below b1)
  have BW2 := Lib.hid (BW.out.trans (b1.mono BW.out.size))
  clear HPZ hp sz b1 BW HY2
  have b1 : Below w5.heap.size w5 (w5.alloc (.cells #[.int .u8 (z : Int)] 5)) := (Below.refl _ _).alloc (Nat.le_refl _) _
  have HPW := Lib.hid (pow_walk n1 1 n3 c1 1 c3 A1 _ A3 f1 _ f3 _ l1 (by omega) l3 (HS1.out.below (BW2.out.trans (b1.mono BW2.out.size))) (sl_one (heap_alloc_new w5 _) hz) (HS3.out.below (BW2.out.trans (b1.mono BW2.out.size))))
  rw [HMo.out, HXX.out, show bvl (fun _ => z) 1 = z by show 0 * 256 + z = z; omega] at HPW
  have HY2 := Lib.hid (HY.out.below b1)
  have HZ2 := Lib.hid (HZ.out.below b1)
  have BW := Lib.hid (BW2.out.trans (b1.mono BW2.out.size))
  clear b1 BW2 HY HZ
  go_wp2_with fail
  generalize w5.alloc (.cells #[.int .u8 (z : Int)] 5) = w6 at *
  refine (HPW.out).mono ?_
  intro e w7 hp
  obtain ⟨V, rfl, _, sw, b1⟩ := powIs_sl hp
  have HW := Lib.hid sw
  have HY := Lib.hid (HY2.out.below b1)
  have HZ := Lib.hid (HZ2.out.below b1)
  have BW2 := Lib.hid (BW.out.trans (b1.mono BW.out.size))
  clear HPW hp sw b1 BW HY2 HZ2
  have HO := Lib.hid (mof_ref A3 n3 c3 f3 w7 (by omega) (HS3.out.below BW2.out))
  rw [HMo.out] at HO
  clear HS1 HS2 HS3
  go_wp2_with fail
  refine (HO.out).mono ?_
  rintro _ w8 ⟨vm, rfl, gm, b1⟩
  have HN := Lib.hid (zero_ref vm n3 Mo w8 gm)
  have GM := Lib.hid gm
  have HWb := Lib.hid (HW.out.below b1)
  have HYb := Lib.hid (HY.out.below b1)
  have HZb := Lib.hid (HZ.out.below b1)
  have BW := Lib.hid (BW2.out.trans (b1.mono BW2.out.size))
  clear HO b1 BW2 HY HZ HW gm
  go_wp2_with fail
  refine (HN.out).mono ?_
  rintro _ w9 ⟨rfl, rfl⟩
  clear HN
  by_cases h0 : Mo = 0
  · rw [decide_eq_true h0]
    subst h0
    have hmk := Try.make_bytes n3 (by omega)
    have hyb := HYb.out
    rw [pw_none] at hyb
    have ez : ∀ j, dig 0 j = 0 := fun j => by unfold dig; rw [Nat.zero_div]
    simp only [ez] at hyb
    have HYc := Lib.hid hyb
    clear hyb ez HYb HWb HZb GM HMo HXX HV3 l1 l2
    obtain ⟨S, hS⟩ : ∃ S, S = str (bs (fun _ => 0) n3) := ⟨_, rfl⟩
    have CV : Hid (∀ w', Below w8.heap.size w8 w' → (convert 22 9 (.slice P n3 n3)).run Try.prog w' = .ok (.string S) w') := Lib.hid fun w' hb' => by
      rw [hS]
      exact conv_sl (c := n3) (HYc.out.below hb')
    have CM : Hid (∀ w' : World, (convert 22 9 (.slice (some ⟨w'.heap.size, 0, none⟩) n3 n3)).run Try.prog (w'.alloc (.cells (arr .u8 n3 fun _ => 0) 5)) = .ok (.string S) (w'.alloc (.cells (arr .u8 n3 fun _ => 0) 5))) := Lib.hid fun w' => by
      rw [hS]
      exact conv_sl (c := n3) (sl_cells (F := fun _ => 0) (heap_alloc_new _ _) fun _ _ => by decide)
    clear hS HYc
    go_wp2_with fail
    have bd := (Below.refl w8.heap.size w8).drew
    go_region_with (first | (go_at_call 10; refine (fixed_walk _).mono ?_; rintro e w' ⟨rfl, b3⟩; replace bd := bd.trans (b3.mono bd.size); have cv1 := CV.out _ bd; have cv2 := CV.out _ (bd.alloc (o := .cells (arr .u8 n3 fun _ => 0) 5) bd.size); have cm1 := CM.out w'))
    all_goals
      go_wp2_with fail
      go_ret
      exact ⟨rfl, (BW.out.trans (bd.mono BW.out.size)).alloc (BW.out.trans (bd.mono BW.out.size)).size _⟩
  · rw [decide_eq_false h0]
    have hpw : ∀ b e, pw b e Mo < 256 ^ n3 := fun b e => pw_small HV3.out
    have hprod : pw (pw XX E Mo) 256 Mo * pw XX z Mo % Mo = pw XX (E * 256 + z) Mo := by rw [pw_byte, if_neg h0]
    have hlt : pw XX (E * 256 + z) Mo < Mo := pw_lt h0
    have hvz := bvl_dig (hpw (pw XX E Mo) 256)
    have hvw := bvl_dig (hpw XX z)
    have hvy := bvl_dig (hpw XX (E * 256 + z))
    have h0' : 0 < Mo := by omega
    generalize pw (pw XX E Mo) 256 Mo = VZ at *
    generalize pw XX z Mo = VW at *
    generalize pw XX (E * 256 + z) Mo = VY at *
    have HOz : Hid (∀ w', Below w8.heap.size w8 w' → Calls Try.prog 12 #[.slice Z n3 n3] w' (RetN n3 VZ w')) := Lib.hid fun w' hb' => by
      have := mof_ref Z n3 n3 _ w' (by omega) (HZb.out.below hb')
      rwa [hvz] at this
    have HOw : Hid (∀ w', Below w8.heap.size w8 w' → Calls Try.prog 12 #[.slice V n3 n3] w' (RetN n3 VW w')) := Lib.hid fun w' hb' => by
      have := mof_ref V n3 n3 _ w' (by omega) (HWb.out.below hb')
      rwa [hvw] at this
    have HOy : Hid (∀ w', Below w8.heap.size w8 w' → Calls Try.prog 12 #[.slice P n3 n3] w' (RetN n3 VY w')) := Lib.hid fun w' hb' => by
      have := mof_ref P n3 n3 _ w' (by omega) (HYb.out.below hb')
      rwa [hvy] at this
    obtain ⟨S, hS⟩ : ∃ S, S = str (bs (fun i => dig VY (n3 - 1 - i)) n3) := ⟨_, rfl⟩
    have CV : Hid (∀ w', Below w8.heap.size w8 w' → (convert 22 9 (.slice P n3 n3)).run Try.prog w' = .ok (.string S) w') := Lib.hid fun w' hb' => by
      rw [hS]
      exact conv_sl (c := n3) (HYb.out.below hb')
    have CR : Hid (∀ w' w'' e, RetB n3 (fun i => dig VY (n3 - 1 - i)) w' e w'' → ∃ A c, e = .returned (.slice A n3 c) ∧ (convert 22 9 (.slice A n3 c)).run Try.prog w'' = .ok (.string S) w'' ∧ Below w'.heap.size w' w'') := Lib.hid fun w' w'' e h => by
      obtain ⟨A, c, rfl, _, _, hs, hb⟩ := h
      rw [hS]
      exact ⟨A, c, rfl, conv_sl hs, hb⟩
    have HPr := Lib.hid hprod
    have HLt := Lib.hid (decide_eq_true hlt)
    have H0 := Lib.hid h0'
    clear hS HYb HWb HZb HMo HXX HV3 l1 l2 h0 hpw hprod hlt hvz hvw hvy h0'
    go_wp2_with fail
    have bd := (Below.refl w8.heap.size w8).drew
    go_region_held (fun w' => (convert 22 9 (.slice P n3 n3)).run Try.prog w' = .ok (.string S) w') (exact CV.out _ bd) (first
      | (go_at_call 10; refine (fixed_walk _).mono ?_; rintro e w' ⟨rfl, b3⟩; replace bd := bd.trans (b3.mono bd.size))
      | (go_at_call 12; (with_reducible refine (HOz.out _ bd).mono ?_); rintro e w' ⟨vz, rfl, gz, b3⟩; replace bd := bd.trans (b3.mono bd.size))
      | (go_at_call 12; (with_reducible refine (HOw.out _ bd).mono ?_); rintro e w' ⟨vw, rfl, gw, b3⟩; replace bd := bd.trans (b3.mono bd.size); replace gz := gz.stays b3)
      | (go_at_call 15; refine (mmul_ref vz vw vm n3 n3 n3 VZ VW Mo _ gz gw (GM.out.stays bd) H0.out ⟨by omega, by omega, by omega⟩).mono ?_; rintro e w' ⟨vp, kp, rfl, hkp, gp, b3⟩; replace bd := bd.trans (b3.mono bd.size); rw [HPr.out] at gp)
      | (go_at_call 14; refine (mbytes_ref vp kp VY n3 _ gp (by omega)).mono ?_; intro e w' h4; obtain ⟨A4, c4, rfl, cr4, b4⟩ := CR.out _ _ _ h4; replace bd := bd.trans (b4.mono bd.size); clear h4 b4)
      | (go_at_call 12; (with_reducible refine (HOy.out _ bd).mono ?_); rintro e w' ⟨vy, rfl, gy, b3⟩; replace bd := bd.trans (b3.mono bd.size))
      | (go_at_call 16; refine (less_ref vy vm n3 n3 VY Mo _ gy (GM.out.stays bd)).mono ?_; rintro e w' ⟨rfl, rfl⟩; rw [HLt.out]))
    all_goals
      go_wp2_with fail
      go_ret
      exact ⟨rfl, BW.out.trans (bd.mono BW.out.size)⟩
theorem bytes_walk (n1 n2 n3 c1 c2 c3 z : Nat) (A1 A2 A3 : Option Addr) (f1 f2 f3 : Nat → Nat) (w : World) (l1 : n1 ≤ maxLen) (l2 : n2 ≤ maxLen) (l3 : n3 ≤ maxLen) (a2 : A2 = none → n2 = 0 ∧ c2 = 0) (s1 : Sl w A1 n1 f1) (s2 : Sl w A2 n2 f2) (s3 : Sl w A3 n3 f3) (hz : z < 256) :
    Calls Try.prog 4 #[.slice A1 n1 c1, .slice A2 n2 c2, .slice A3 n3 c3, .int .u8 (z : Int)] w fun e w' => e = .returned (.bool true) ∧ Below w.heap.size w w' := by
  by_cases h : 64 < n1 ∨ 64 < n2 ∨ 64 < n3
  · exact bytes_far n1 n2 n3 c1 c2 c3 z A1 A2 A3 w l1 l2 l3 true (Lib.hid (decide_eq_true h)) (.inl rfl)
  · by_cases h2 : n2 = 64
    · exact bytes_far n1 n2 n3 c1 c2 c3 z A1 A2 A3 w l1 l2 l3 false (Lib.hid (decide_eq_false h)) (.inr (.inl ⟨rfl, h2⟩))
    · by_cases h3 : n3 = 0
      · exact bytes_far n1 n2 n3 c1 c2 c3 z A1 A2 A3 w l1 l2 l3 false (Lib.hid (decide_eq_false h)) (.inr (.inr ⟨rfl, h2, h3⟩))
      · exact bytes_near n1 n2 n3 c1 c2 c3 z A1 A2 A3 f1 f2 f3 w (by omega) (by omega) (by omega) (by omega) hz a2 s1 s2 s3
end Go.Proofs.Ytflpdlpfclbcgaa
