/- What the functions digits, below and root of the document's answers for sha do: roots of primes, bit by bit. -/
import Derived.Test.YtnnodibjocilmaaDoorShG
import Derived.Deep.CutRange
import Derived.Laws.AppendOwnNone
import Derived.Maps.AppendAt
namespace Go.Proofs.YtnnodibjocilmaaDoor
open Go.RowKit SmWord
set_option maxRecDepth 100000

set_option maxHeartbeats 1000000 in
theorem digits_ref (X : Nat) (w : World) (hX : X < B) : Calls Tryd.prog 18 #[.int .u64 (X : Int)] w fun e w' => ∃ L, L ≤ 8 ∧ ∃ v, e = .returned v ∧ w'.ownsRow w.heap.size 3 1 v L (dg X L) ∧ X < 256 ^ L ∧ Below w.heap.size w w' := by
  obtain ⟨i0, hi, hz0, hz1, hz2⟩ := info_parts Tryd.info3
  have HX : Hid (X < 256 ^ 8) := Lib.hid (by rw [← B_256]; exact hX)
  clear hX
  go_enter Tryd.func18, Tryd.ntmps18
  go_wp2_with fail
  have o0 := own_empty w (Nat.le_refl _)
  have bW : Below w.heap.size w (w.alloc (.cells #[] 3)) := (Below.refl _ _).alloc (Nat.le_refl _) _
  go_loopw [0, 3] (fun x v wr => ∃ k y : Nat, k ≤ 8 ∧ x = .int .u64 (y : Int) ∧ Hid (X / 256 ^ k = y) ∧ wr.ownsRow w.heap.size 3 1 v k (dg X k) ∧ Below w.heap.size w wr) (fun x _ _ => (intOf x).toNat)
  case atStart => exact ⟨0, X, by omega, rfl, Lib.hid (by simp), o0, bW⟩
  case round =>
    clear o0 bW
    obtain ⟨k, y, hk, rfl, hy, hown, bW⟩ := hrel
    have sW := bW.size
    by_cases hpos : 0 < y
    · have hk7 : k < 8 := by
        apply Classical.byContradiction
        intro h
        obtain rfl : k = 8 := by omega
        have := hy.out
        rw [Nat.div_eq_of_lt HX.out] at this
        omega
      obtain ⟨d, hd⟩ : ∃ d, dig X k = d := ⟨_, rfl⟩
      have hd2 : y % 256 = d := by rw [← hd, dig, hy.out]
      have hdI : (y : Int) % 256 = (d : Int) := by omega
      have hd8 : d < 256 := by omega
      have hyB : y < B := Nat.lt_of_le_of_lt (by rw [← hy.out]; exact Nat.div_le_self _ _) (B_256 ▸ HX.out)
      have HD := Lib.hid hd
      have HYB := Lib.hid hyB
      clear hd hd2 hyB
      go_wp2_with (at_builtin; refine wpList_append_own _ rfl _ _ 48 rfl w.heap.size 3 i0 (.int .i64 0) 1 8 Tryd.underlying48 hi hz0 hz1 hz2 rfl (by decide) _ _ _ rfl (hown.alloc _) ⟨wr.heap.size, 0, none⟩ 1 1 [.int .i64 ((d : Nat) : Int)] rfl rfl ?c1 ?c2 ?c3 ?c4 ?c5 ?_)
      case c1 => exact own_one _ _
      case c2 => simp [Value.oneCell']
      case c3 => unfold maxLen; omega
      case c4 => omega
      case c5 => simp; omega
      intro v' w3 hown' hgrow _
      rw [← HD.out, dg_succ] at hown'
      have hr := fun g hg => (hown.lt g hg).1
      have bX : Below w.heap.size w w3 := (bW.alloc (o := .cells #[.int .i64 ((d : Nat) : Int)] 3) (by omega)).grown hgrow (by simp; omega) (fun g hg => by have := hr g hg; omega)
      obtain ⟨y', hy'⟩ : ∃ y', y / 256 = y' := ⟨_, rfl⟩
      have eq : IntKind.u64.wrap ((y : Int) / 256) = (y' : Int) := by
        have := HYB.out
        simp only [B] at this
        rw [IntKind.wrap_u64]
        omega
      have HY := Lib.hid hy'
      clear hown hgrow bW hr hy'
      go_wp2_with fail
      exact ⟨⟨k + 1, y', by omega, rfl, Lib.hid (by rw [← HY.out, ← hy.out, Nat.pow_succ, Nat.div_div_eq_div_mul]), hown', bX⟩, by have := HY.out; simp only [intOf]; omega⟩
    · obtain rfl : y = 0 := by omega
      go_wp2_with fail
      go_ret
      refine ⟨k, hk, _, rfl, hown, ?_, bW⟩
      have := hy.out
      exact (Nat.div_eq_zero_iff_lt (Nat.pow_pos (by decide))).1 this

theorem own_num {w : World} {base : Nat} {v : Value} {k X : Nat} (h : w.ownsRow base 3 1 v k (dg X k)) : ∃ A c, v = .slice A k c ∧ (A = none → k = 0 ∧ c = 0) ∧ (0 < k → ∃ b off, A = some ⟨b, off, none⟩ ∧ ∀ i, i < k → w.cell? ⟨b, off + i, none⟩ = some (.int .i64 ((dig X i : Nat) : Int))) := by
  rcases h.2 with ⟨rfl, rfl⟩ | ⟨g, cap, cur, rfl, hb, hg, h1, h2, h3, h4⟩
  · exact ⟨none, 0, rfl, fun _ => ⟨rfl, rfl⟩, fun h => absurd h (by omega)⟩
  · refine ⟨_, cap, rfl, (fun h => by cases h), fun _ => ⟨g, 0, rfl, fun i hi => ?_⟩⟩
    rw [Nat.zero_add]
    refine blk_cell hg ?_
    have := dg_get (X := X) hi
    rw [← h4, Nat.mul_one, List.getElem?_take, if_pos hi] at this
    simpa using this
/-- The digits of a number are appended. -/
theorem append_num {ops : Array Oper} {rest : List Oper} {o : Oper} {a : Act} {w : World} {Q : Exit → Act → World → Prop} (hg : o.guard = none) (s x : Operand)
    (ho : o.op = .call { callee := .builtin .append, args := #[s, x], argTypes := #[48, 48] }) (base : Nat) (v : Value) (k : Nat) (xs : List Value) (hs : a.eval s = v) (hown : w.ownsRow base 3 1 v k xs)
    (base' : Nat) (v' : Value) (n X : Nat) (hx : a.eval x = v') (hown' : w.ownsRow base' 3 1 v' n (dg X n)) (hk : k + n ≤ 1000000) (hbase : base ≤ w.heap.size)
    (h : ∀ v' w', w'.ownsRow base 3 1 v' (k + n) (xs ++ dg X n) → w.grownBy w' v.ownBlock → wpList Tryd.prog ops Q rest (a.put o.dst v') w') : wpList Tryd.prog ops Q (o :: rest) a w := by
  obtain ⟨i0, hi0, hz0, hz1, hz2⟩ := info_parts Tryd.info3
  obtain ⟨A, c, rfl, hA, hc⟩ := own_num hown'
  cases A with
  | none =>
    obtain ⟨rfl, rfl⟩ := hA rfl
    refine wpList_append_own_none hg s x 48 ho base 3 i0 1 Tryd.underlying48 hi0 v k xs hs hown hx (h v w (by simpa [dg] using hown) ⟨rfl, rfl, rfl, Nat.le_refl _, fun _ _ _ => rfl⟩)
  | some ad =>
    refine wpList_append_own_at w hg s x 48 ho base 3 i0 (.int .i64 0) 1 8 Tryd.underlying48 hi0 hz0 hz1 hz2 rfl (by decide) v k xs hs hown ad n c (dg X n) hx (by rw [dg_length, Nat.mul_one]) (fun j u hj => ?_) (fun u hu => ?_) (by unfold maxLen; omega) (by omega) hbase (fun v' w' h1 h2 _ _ => h v' w' h1 h2)
    · have hjn : j < n := by have := (List.getElem?_eq_some_iff.1 hj).1; rwa [dg_length] at this
      obtain ⟨b, off, e, hcc⟩ := hc (by omega)
      cases e
      rw [dg_get hjn] at hj
      cases hj
      have hadd : (⟨b, off, none⟩ : Addr).add j = ⟨b, off + j, none⟩ := by unfold Addr.add; split <;> simp_all
      rw [hadd]
      exact hcc j hjn
    · simp [dg] at hu
      obtain ⟨i, _, rfl⟩ := hu
      rfl
theorem dig_low (p K : Nat) {i : Nat} (h : i < K) : dig (p * 256 ^ K) i = 0 := by
  unfold dig
  have e : p * 256 ^ K = 256 ^ i * (256 * (p * 256 ^ (K - i - 1))) := by
    have : 256 ^ K = 256 ^ i * (256 * 256 ^ (K - i - 1)) := by rw [← Nat.pow_succ', ← Nat.pow_add]; congr 1; omega
    rw [this]; generalize 256 ^ i = a; generalize 256 ^ (K - i - 1) = b; grind
  rw [e, Nat.mul_div_cancel_left _ (Nat.pow_pos (by decide)), Nat.mul_mod_right]
theorem dig_put (p K i : Nat) : dig (p * 256 ^ K) (K + i) = dig p i := by
  unfold dig
  rw [Nat.pow_add, ← Nat.div_div_eq_div_mul, Nat.mul_div_cancel _ (Nat.pow_pos (by decide))]
theorem dg_put (p K L : Nat) : dg (p * 256 ^ K) K ++ dg p L = dg (p * 256 ^ K) (K + L) := by
  unfold dg
  rw [List.range_add, List.map_append, List.map_map]
  congr 1
  exact List.map_congr_left fun i _ => by simp only [Function.comp]; rw [dig_put]
/-! below -/
set_option maxHeartbeats 4000000 in
theorem below_ref (n p : Nat) (cube : Bool) (w : World) (hn : n < B) (hp : p < B) : Calls Tryd.prog 15 #[.int .u64 (n : Int), .int .u64 (p : Int), .bool cube] w fun e w' => e = .returned (.bool (if cube then cuOk p n else sqOk p n)) ∧ Below w.heap.size w w' := by
  obtain ⟨i0, hi, hz0, hz1, hz2⟩ := info_parts Tryd.info3
  have HP := Lib.hid hp
  clear hp
  cases cube with
  | false =>
    go_enter Tryd.func15, Tryd.ntmps15
    go_wp2_with fail
    refine (digits_ref n w hn).mono ?_
    rintro e w1 ⟨L, hL, v, rfl, own, hlt, b1⟩
    have hx := NumS.of_owns own hlt (by omega)
    clear own hlt hn
    go_wp2_with fail
    refine (times_ref v v L L n n w1 hx hx (by omega)).mono ?_
    rintro e w2 ⟨vy, rfl, hy, b2⟩
    have bW := b1.trans (b2.mono b1.size)
    clear b1 b2 hx
    obtain ⟨LY, hLY⟩ : ∃ l, L + L + 1 = l := ⟨_, rfl⟩
    obtain ⟨Y, hY⟩ : ∃ y, n * n = y := ⟨_, rfl⟩
    rw [hLY, hY] at hy
    have hLY2 : LY ≤ 26 := by omega
    have HYn := Lib.hid hY
    obtain ⟨w3, rfl⟩ : ∃ w3 : World, w3 = w2 := ⟨_, rfl⟩
    have HB := Lib.hid bW
    have HY := Lib.hid hy
    have hz : True := trivial
    clear hLY hY hy
    go_wp2_with fail
    have sW := bW.size
    have o0 := own_empty w3 (Nat.le_refl w3.heap.size)
    have bZ : Below w3.heap.size w3 (w3.alloc (.cells #[] 3)) := (Below.refl _ _).alloc (Nat.le_refl _) _
    clear hz bW sW
    go_loopw [10, 11] (fun v i wr => ∃ k : Nat, k ≤ 8 ∧ i = .int .i64 (k : Int) ∧ wr.ownsRow w3.heap.size 3 1 v k (dg (p * 256 ^ 8) k) ∧ Below w3.heap.size w3 wr) (fun _ i _ => 8 - (intOf i).toNat)
    case atStart => exact ⟨0, by omega, rfl, o0, bZ⟩
    case round =>
      clear o0 bZ
      obtain ⟨k, hk, rfl, hown, bZ⟩ := hrel
      have sZ := bZ.size
      by_cases hlt : k < 8
      · have hd := dig_low p 8 hlt
        have HD := Lib.hid hd
        clear hd
        go_wp2_with (at_builtin; refine wpList_append_own _ rfl _ _ 48 rfl w3.heap.size 3 i0 (.int .i64 0) 1 8 Tryd.underlying48 hi hz0 hz1 hz2 rfl (by decide) _ _ _ rfl (hown.alloc _) ⟨wr.heap.size, 0, none⟩ 1 1 [.int .i64 ((dig (p * 256 ^ 8) k : Nat) : Int)] rfl rfl ?c1 ?c2 ?c3 ?c4 ?c5 ?_)
        case c1 => rw [HD.out]; exact own_one _ _
        case c2 => simp [Value.oneCell']
        case c3 => unfold maxLen; omega
        case c4 => omega
        case c5 => simp; omega
        intro v' w4 hown' hgrow _
        rw [dg_succ] at hown'
        have hr := fun g hg => (hown.lt g hg).1
        have bX : Below w3.heap.size w3 w4 := (bZ.alloc (o := .cells #[.int .i64 0] 3) (by omega)).grown hgrow (by simp; omega) (fun g hg => by have := hr g hg; omega)
        clear hown hgrow bZ hr
        go_wp2_with fail
        exact ⟨⟨k + 1, by omega, by go_num, hown', bX⟩, by simp only [intOf]; omega⟩
      · obtain rfl : k = 8 := by omega
        go_wp2_with fail
        refine (digits_ref p wr HP.out).mono ?_
        rintro e w4 ⟨Lp, hLp, vp, rfl, ownp, hltp, b4⟩
        have hz4 := own_stays hown b4
        have bZ4 := bZ.trans (b4.mono sZ)
        clear hown b4
        go_wp2_with (at_builtin; refine append_num rfl _ _ rfl w3.heap.size _ 8 (dg (p * 256 ^ 8) 8) rfl hz4 wr.heap.size vp Lp p rfl ownp (by omega) bZ4.size ?_; intro vz w5 hown5 hgrow5)
        rw [dg_put] at hown5
        have bZ5 : Below w3.heap.size w3 w5 := bZ4.grown hgrow5 bZ4.size (fun g hg => (hz4.lt g hg).1)
        have hZlt : p * 256 ^ 8 < 256 ^ (8 + Lp) := by
          rw [Nat.pow_add, Nat.mul_comm]
          exact Nat.mul_lt_mul_of_pos_left hltp (Nat.pow_pos (by decide))
        have hzn := NumS.of_owns hown5 hZlt (by omega)
        have hyn := HY.out.stays bZ5
        have hbW := HB.out.trans (bZ5.mono HB.out.size)
        clear hz4 bZ4 hown5 hgrow5 hZlt ownp hltp bZ5 bZ sZ
        obtain ⟨LZ, hLZ⟩ : ∃ LZ, 8 + Lp = LZ := ⟨_, rfl⟩
        obtain ⟨Z, hZ⟩ : ∃ Z, p * 256 ^ 8 = Z := ⟨_, rfl⟩
        rw [hLZ, hZ] at hzn
        have hLZ2 : LZ ≤ 20 := by omega
        obtain ⟨t, ht, h1, h2, h3⟩ : ∃ t : Nat, max (LY : Int) (LZ : Int) = (t : Int) ∧ LY ≤ t ∧ LZ ≤ t ∧ t ≤ 30 := ⟨max LY LZ, by omega, by omega, by omega, by omega⟩
        have hYt : Y / 256 ^ t = 0 := Nat.div_eq_of_lt (Nat.lt_of_lt_of_le hyn.lt (Nat.pow_le_pow_right (by decide) h1))
        have hZt : Z / 256 ^ t = 0 := Nat.div_eq_of_lt (Nat.lt_of_lt_of_le hzn.lt (Nat.pow_le_pow_right (by decide) h2))
        have hst : Hid (Y / 256 ^ t = Z / 256 ^ t) := Lib.hid (by rw [hYt, hZt])
        obtain ⟨Ay, cy, rfl, hy1⟩ := hyn.sl
        obtain ⟨Az, cz, rfl, hz1⟩ := hzn.sl
        have HYN := Lib.hid hyn
        have HZN := Lib.hid hzn
        have hy9 : LY ≤ 9223372036854775807 := by omega
        have hz9 : LZ ≤ 9223372036854775807 := by omega
        have HZn := Lib.hid hZ
        clear hyn hzn hy1 hz1 hYt hZt hLZ2 HY hk hlt hLZ hZ hLp
        have q1 : (Builtin.len_ #[48] 3 #[Value.slice Ay LY cy]).run Tryd.prog w5 = .ok (goInt LY) w5 := by simp [Builtin.len_, run_underlying Tryd.underlying48, go_sem]
        have q2 : (Builtin.len_ #[48] 3 #[Value.slice Az LZ cz]).run Tryd.prog w5 = .ok (goInt LZ) w5 := by simp [Builtin.len_, run_underlying Tryd.underlying48, go_sem]
        go_wp2_with fail
        rw [q1]
        go_simp
        go_wp2_with fail
        clear q1 q2 ht h1 h2
        have htI : ∃ z : Int, z = (t : Int) - 1 := ⟨_, rfl⟩
        go_loopw [12] (fun i wr => ∃ (k : Nat) (z : Int), k ≤ 30 ∧ z = (k : Int) - 1 ∧ i = .int .i64 z ∧ Hid (Y / 256 ^ k = Z / 256 ^ k) ∧ Hid (Below w.heap.size w wr) ∧ Hid (NumS wr (.slice Ay LY cy) LY Y) ∧ Hid (NumS wr (.slice Az LZ cz) LZ Z)) (fun i _ => ((intOf i) + 1).toNat)
        case atStart => exact ⟨t, _, h3, rfl, rfl, hst, Lib.hid hbW, HYN, HZN⟩
        case round =>
          clear hst hbW HYN HZN htI h3
          obtain ⟨k, z, hk, hz, rfl, hst, HB, HYN, HZN⟩ := hrel
          cases k with
          | zero =>
            obtain rfl : z = -1 := by omega
            clear hz hk
            have he := hst.out
            simp only [Nat.pow_zero, Nat.div_one] at he
            go_wp2_with fail
            go_ret
            refine ⟨?_, HB.out⟩
            show Ending.returned (Value.bool true) = Ending.returned (Value.bool (sqOk p n))
            rw [sqOk, HYn.out, HZn.out, decide_eq_true (Nat.le_of_eq he)]
          | succ k =>
            obtain rfl : z = (k : Int) := by omega
            clear hz
            have hd1 := dig_lt Y k
            have hd2 := dig_lt Z k
            go_wp2_with fail
            refine (at_ref (.slice Ay LY cy) LY Y k wr HYN.out (by omega)).mono ?_
            rintro e w6 ⟨rfl, rfl⟩
            go_wp2_with fail
            refine (at_ref (.slice Az LZ cz) LZ Z k wr HZN.out (by omega)).mono ?_
            rintro e w6 ⟨rfl, rfl⟩
            by_cases hne : dig Y k = dig Z k
            · have hs := Lib.hid (less_same hst.out hne)
              rw [hne]
              go_wp2_with fail
              exact ⟨⟨k, (k : Int) - 1, by omega, rfl, rfl, hs, HB, HYN, HZN⟩, by simp only [intOf]; omega⟩
            · have hl := Lib.hid (less_here hst.out hne)
              obtain ⟨a, ha⟩ : ∃ a, dig Y k = a := ⟨_, rfl⟩
              obtain ⟨b, hb⟩ : ∃ b, dig Z k = b := ⟨_, rfl⟩
              rw [ha, hb]
              rw [ha, hb] at hne hl
              have hI : ((a : Int) == (b : Int)) = false := by simp; omega
              go_wp2_with fail
              go_ret
              refine ⟨?_, HB.out⟩
              show Ending.returned (Value.bool (decide (a < b))) = Ending.returned (Value.bool (sqOk p n))
              have h1 := hl.out
              have h2 : Y = Z → a = b := fun e => by rw [← ha, ← hb, e]
              rw [sqOk, HYn.out, HZn.out]
              congr 2
              exact decide_eq_decide.2 (by omega)
  | true =>
    go_enter Tryd.func15, Tryd.ntmps15
    go_wp2_with fail
    refine (digits_ref n w hn).mono ?_
    rintro e w1 ⟨L, hL, v, rfl, own, hlt, b1⟩
    have hx := NumS.of_owns own hlt (by omega)
    clear own hlt hn
    go_wp2_with fail
    refine (times_ref v v L L n n w1 hx hx (by omega)).mono ?_
    rintro e w2 ⟨v2, rfl, h2, b2⟩
    have bV := b1.trans (b2.mono b1.size)
    have hx2 := hx.stays b2
    clear b1 b2 hx
    go_wp2_with fail
    refine (times_ref v2 v (L + L + 1) L (n * n) n w2 h2 hx2 (by omega)).mono ?_
    rintro e w3 ⟨vy, rfl, hy, b3⟩
    have bW := bV.trans (b3.mono bV.size)
    clear bV b3 hx2 h2
    obtain ⟨LY, hLY⟩ : ∃ l, L + L + 1 + L + 1 = l := ⟨_, rfl⟩
    obtain ⟨Y, hY⟩ : ∃ y, n * n * n = y := ⟨_, rfl⟩
    rw [hLY, hY] at hy
    have hLY2 : LY ≤ 26 := by omega
    have HYn := Lib.hid hY
    have HB := Lib.hid bW
    have HY := Lib.hid hy
    have hz : True := trivial
    clear hLY hY hy
    go_wp2_with fail
    have sW := bW.size
    have o0 := own_empty w3 (Nat.le_refl w3.heap.size)
    have bZ : Below w3.heap.size w3 (w3.alloc (.cells #[] 3)) := (Below.refl _ _).alloc (Nat.le_refl _) _
    clear hz bW sW
    go_loopw [10, 11] (fun v i wr => ∃ k : Nat, k ≤ 12 ∧ i = .int .i64 (k : Int) ∧ wr.ownsRow w3.heap.size 3 1 v k (dg (p * 256 ^ 12) k) ∧ Below w3.heap.size w3 wr) (fun _ i _ => 12 - (intOf i).toNat)
    case atStart => exact ⟨0, by omega, rfl, o0, bZ⟩
    case round =>
      clear o0 bZ
      obtain ⟨k, hk, rfl, hown, bZ⟩ := hrel
      have sZ := bZ.size
      by_cases hlt : k < 12
      · have hd := dig_low p 12 hlt
        have HD := Lib.hid hd
        clear hd
        go_wp2_with (at_builtin; refine wpList_append_own _ rfl _ _ 48 rfl w3.heap.size 3 i0 (.int .i64 0) 1 8 Tryd.underlying48 hi hz0 hz1 hz2 rfl (by decide) _ _ _ rfl (hown.alloc _) ⟨wr.heap.size, 0, none⟩ 1 1 [.int .i64 ((dig (p * 256 ^ 12) k : Nat) : Int)] rfl rfl ?c1 ?c2 ?c3 ?c4 ?c5 ?_)
        case c1 => rw [HD.out]; exact own_one _ _
        case c2 => simp [Value.oneCell']
        case c3 => unfold maxLen; omega
        case c4 => omega
        case c5 => simp; omega
        intro v' w4 hown' hgrow _
        rw [dg_succ] at hown'
        have hr := fun g hg => (hown.lt g hg).1
        have bX : Below w3.heap.size w3 w4 := (bZ.alloc (o := .cells #[.int .i64 0] 3) (by omega)).grown hgrow (by simp; omega) (fun g hg => by have := hr g hg; omega)
        clear hown hgrow bZ hr
        go_wp2_with fail
        exact ⟨⟨k + 1, by omega, by go_num, hown', bX⟩, by simp only [intOf]; omega⟩
      · obtain rfl : k = 12 := by omega
        go_wp2_with fail
        refine (digits_ref p wr HP.out).mono ?_
        rintro e w4 ⟨Lp, hLp, vp, rfl, ownp, hltp, b4⟩
        have hz4 := own_stays hown b4
        have bZ4 := bZ.trans (b4.mono sZ)
        clear hown b4
        go_wp2_with (at_builtin; refine append_num rfl _ _ rfl w3.heap.size _ 12 (dg (p * 256 ^ 12) 12) rfl hz4 wr.heap.size vp Lp p rfl ownp (by omega) bZ4.size ?_; intro vz w5 hown5 hgrow5)
        rw [dg_put] at hown5
        have bZ5 : Below w3.heap.size w3 w5 := bZ4.grown hgrow5 bZ4.size (fun g hg => (hz4.lt g hg).1)
        have hZlt : p * 256 ^ 12 < 256 ^ (12 + Lp) := by
          rw [Nat.pow_add, Nat.mul_comm]
          exact Nat.mul_lt_mul_of_pos_left hltp (Nat.pow_pos (by decide))
        have hzn := NumS.of_owns hown5 hZlt (by omega)
        have hyn := HY.out.stays bZ5
        have hbW := HB.out.trans (bZ5.mono HB.out.size)
        clear hz4 bZ4 hown5 hgrow5 hZlt ownp hltp bZ5 bZ sZ
        obtain ⟨LZ, hLZ⟩ : ∃ LZ, 12 + Lp = LZ := ⟨_, rfl⟩
        obtain ⟨Z, hZ⟩ : ∃ Z, p * 256 ^ 12 = Z := ⟨_, rfl⟩
        rw [hLZ, hZ] at hzn
        have hLZ2 : LZ ≤ 20 := by omega
        obtain ⟨t, ht, h1, h2, h3⟩ : ∃ t : Nat, max (LY : Int) (LZ : Int) = (t : Int) ∧ LY ≤ t ∧ LZ ≤ t ∧ t ≤ 30 := ⟨max LY LZ, by omega, by omega, by omega, by omega⟩
        have hYt : Y / 256 ^ t = 0 := Nat.div_eq_of_lt (Nat.lt_of_lt_of_le hyn.lt (Nat.pow_le_pow_right (by decide) h1))
        have hZt : Z / 256 ^ t = 0 := Nat.div_eq_of_lt (Nat.lt_of_lt_of_le hzn.lt (Nat.pow_le_pow_right (by decide) h2))
        have hst : Hid (Y / 256 ^ t = Z / 256 ^ t) := Lib.hid (by rw [hYt, hZt])
        obtain ⟨Ay, cy, rfl, hy1⟩ := hyn.sl
        obtain ⟨Az, cz, rfl, hz1⟩ := hzn.sl
        have HYN := Lib.hid hyn
        have HZN := Lib.hid hzn
        have hy9 : LY ≤ 9223372036854775807 := by omega
        have hz9 : LZ ≤ 9223372036854775807 := by omega
        have HZn := Lib.hid hZ
        clear hyn hzn hy1 hz1 hYt hZt hLZ2 HY hk hlt hLZ hZ hLp
        have q1 : (Builtin.len_ #[48] 3 #[Value.slice Ay LY cy]).run Tryd.prog w5 = .ok (goInt LY) w5 := by simp [Builtin.len_, run_underlying Tryd.underlying48, go_sem]
        have q2 : (Builtin.len_ #[48] 3 #[Value.slice Az LZ cz]).run Tryd.prog w5 = .ok (goInt LZ) w5 := by simp [Builtin.len_, run_underlying Tryd.underlying48, go_sem]
        go_wp2_with fail
        rw [q1]
        go_simp
        go_wp2_with fail
        clear q1 q2 ht h1 h2
        have htI : ∃ z : Int, z = (t : Int) - 1 := ⟨_, rfl⟩
        go_loopw [12] (fun i wr => ∃ (k : Nat) (z : Int), k ≤ 30 ∧ z = (k : Int) - 1 ∧ i = .int .i64 z ∧ Hid (Y / 256 ^ k = Z / 256 ^ k) ∧ Hid (Below w.heap.size w wr) ∧ Hid (NumS wr (.slice Ay LY cy) LY Y) ∧ Hid (NumS wr (.slice Az LZ cz) LZ Z)) (fun i _ => ((intOf i) + 1).toNat)
        case atStart => exact ⟨t, _, h3, rfl, rfl, hst, Lib.hid hbW, HYN, HZN⟩
        case round =>
          clear hst hbW HYN HZN htI h3
          obtain ⟨k, z, hk, hz, rfl, hst, HB, HYN, HZN⟩ := hrel
          cases k with
          | zero =>
            obtain rfl : z = -1 := by omega
            clear hz hk
            have he := hst.out
            simp only [Nat.pow_zero, Nat.div_one] at he
            go_wp2_with fail
            go_ret
            refine ⟨?_, HB.out⟩
            show Ending.returned (Value.bool true) = Ending.returned (Value.bool (cuOk p n))
            rw [cuOk, HYn.out, HZn.out, decide_eq_true (Nat.le_of_eq he)]
          | succ k =>
            obtain rfl : z = (k : Int) := by omega
            clear hz
            have hd1 := dig_lt Y k
            have hd2 := dig_lt Z k
            go_wp2_with fail
            refine (at_ref (.slice Ay LY cy) LY Y k wr HYN.out (by omega)).mono ?_
            rintro e w6 ⟨rfl, rfl⟩
            go_wp2_with fail
            refine (at_ref (.slice Az LZ cz) LZ Z k wr HZN.out (by omega)).mono ?_
            rintro e w6 ⟨rfl, rfl⟩
            by_cases hne : dig Y k = dig Z k
            · have hs := Lib.hid (less_same hst.out hne)
              rw [hne]
              go_wp2_with fail
              exact ⟨⟨k, (k : Int) - 1, by omega, rfl, rfl, hs, HB, HYN, HZN⟩, by simp only [intOf]; omega⟩
            · have hl := Lib.hid (less_here hst.out hne)
              obtain ⟨a, ha⟩ : ∃ a, dig Y k = a := ⟨_, rfl⟩
              obtain ⟨b, hb⟩ : ∃ b, dig Z k = b := ⟨_, rfl⟩
              rw [ha, hb]
              rw [ha, hb] at hne hl
              have hI : ((a : Int) == (b : Int)) = false := by simp; omega
              go_wp2_with fail
              go_ret
              refine ⟨?_, HB.out⟩
              show Ending.returned (Value.bool (decide (a < b))) = Ending.returned (Value.bool (cuOk p n))
              have h1 := hl.out
              have h2 : Y = Z → a = b := fun e => by rw [← ha, ← hb, e]
              rw [cuOk, HYn.out, HZn.out]
              congr 2
              exact decide_eq_decide.2 (by omega)
end Go.Proofs.YtnnodibjocilmaaDoor
