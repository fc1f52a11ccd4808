/- What the function digit of package wide does: a part of a quotient, and what is left; all older memory is as it was. -/
import Derived.Test.YtihefgpicnhdjaaDoorG4
import Derived.Test.YtihefgpicnhdjaaDoorG3
import Derived.Test.YtihefgpicnhdjaaDoorG2
import Derived.Deep.CutBlock
import Derived.Deep.DeepCutAuto
import Derived.Test.YtihefgpicnhdjaaDoorG0
import Derived.Deep.RegionWith
namespace Go.Proofs.YtihefgpicnhdjaaDoor
open Go.RowKit SmWord
set_option maxRecDepth 100000

theorem blk_new {w : World} {n : Nat} (o : Obj) (h : n = w.heap.size) : (w.alloc o).heap[n]? = some o := by subst h; exact heap_alloc_new _ _
theorem store_new0 (w : World) (m : Nat) : (storeCells ⟨w.heap.size, 0, none⟩ (wa m).toList 0).run Tryd.prog (w.alloc (.cells (wa 0) 55)) = .ok () (w.alloc (.cells (wa m) 55)) := store_new w m
theorem cmp_lt (m n : Nat) (h : m % M < n % M) (w : World) : Calls Tryd.prog 90 #[wd m, wd n] w fun e w' => e = .returned (.int .i64 (-1)) ∧ Below w.heap.size w w' := by
  have := compare_wd m n w
  unfold cmpN at this
  rw [if_pos h] at this
  exact this
theorem cmp_ge (m n : Nat) (h : ¬ m % M < n % M) : ∃ z : Int, 0 ≤ z ∧ ∀ w : World, Calls Tryd.prog 90 #[wd m, wd n] w fun e w' => e = .returned (.int .i64 z) ∧ Below w.heap.size w w' := by
  refine ⟨cmpN (m % M) (n % M), ?_, fun w => compare_wd m n w⟩
  unfold cmpN
  rw [if_neg h]
  split <;> omega
theorem word_cells {w : World} {b m : Nat} {t : TypeId} (hb : w.heap[b]? = some (.cells (wa m) t)) :
    w.cell? ⟨b, 0, none⟩ = some (.int .u64 ((l0 m : Nat) : Int)) ∧ w.cell? ⟨b, 1, none⟩ = some (.int .u64 ((l1 m : Nat) : Int)) ∧
    w.cell? ⟨b, 2, none⟩ = some (.int .u64 ((l2 m : Nat) : Int)) ∧ w.cell? ⟨b, 3, none⟩ = some (.int .u64 ((l3 m : Nat) : Int)) :=
  ⟨blk_cell hb rfl, blk_cell hb rfl, blk_cell hb rfl, blk_cell hb rfl⟩
theorem z4_wa : #[Value.int .u64 0, .int .u64 0, .int .u64 0, .int .u64 0] = wa 0 := rfl

set_option maxHeartbeats 2000000 in
theorem digit_walk (R m L P D g ov u0 u1 q r d0 : Nat) (x : Int) (c : Int) (w : World)
   (Hg : Hid (∀ w : World, Calls Tryd.prog 88 #[wd R, wd m] w fun e w' => e = .returned (.int .u64 (g : Int)) ∧ Below w.heap.size w w'))
   (Ha : Hid (∀ w : World, Calls Tryd.prog 89 #[wd 0, wd m, .int .u64 (g : Int)] w fun e w' => e = .returned (.tuple #[wd P, .int .u64 (ov : Int)]) ∧ Below w.heap.size w w'))
   (fl : Hid (((((wa 0).setIfInBounds 0 (Value.int .u64 x)).setIfInBounds 1 (.int .u64 ((l0 R : Nat) : Int))).setIfInBounds 2 (.int .u64 ((l1 R : Nat) : Int))).setIfInBounds 3 (.int .u64 ((l2 R : Nat) : Int)) = wa L))
   (Hc : Hid (∀ w : World, Calls Tryd.prog 90 #[wd L, wd P] w fun e w' => e = .returned (.int .i64 c) ∧ Below w.heap.size w w'))
   (Hs : Hid (∀ w : World, Calls Tryd.prog 91 #[wd L, wd P] w fun e w' => e = .returned (wd D) ∧ Below w.heap.size w w'))
   (hu0 : Hid (IntKind.u64.wrap (((l3 R : Nat) : Int) - (ov : Int)) = (u0 : Int)))
   (hu1 : Hid (c < 0 → IntKind.u64.wrap ((u0 : Int) - 1) = (u1 : Int))) (hu1' : Hid (0 ≤ c → u0 = u1))
   (hg0 : Hid (g = q + d0)) (hgB : g < B) (hd0 : d0 ≤ 2) (hov : Hid (Over r m d0 u1 D)) (hrm : Hid (r < m)) (hrM : Hid (r < M)) (hmM : Hid (m < M)) :
    Calls Tryd.prog 85 #[wd R, .int .u64 x, wd m] w fun e w' => e = .returned (.tuple #[.int .u64 (q : Int), wd r]) ∧ Below w.heap.size w w' := by
  have hz := z4_wa
  have hs := store_new0
  have hsz := wa_size
  go_enter Tryd.func85, Tryd.ntmps85
  go_upto_region 1 with fail
  have f3 : (((w.alloc (.cells (wa R) 55)).alloc (.cells (wa m) 55)).alloc (.cells (wa 0) 55)).heap[w.heap.size]? = some (.cells (wa R) 55) := blk_alloc (blk_alloc (blk_new _ rfl))
  have f5 : (((w.alloc (.cells (wa R) 55)).alloc (.cells (wa m) 55)).alloc (.cells (wa 0) 55)).heap[w.heap.size + 1]? = some (.cells (wa m) 55) := blk_alloc (blk_new _ (by simp))
  have f7 : (((w.alloc (.cells (wa R) 55)).alloc (.cells (wa m) 55)).alloc (.cells (wa 0) 55)).heap[w.heap.size + 1 + 1]? = some (.cells (wa 0) 55) := blk_new _ (by simp)
  have bW : Below w.heap.size w (((w.alloc (.cells (wa R) 55)).alloc (.cells (wa m) 55)).alloc (.cells (wa 0) 55)) := ((((Below.refl _ _).alloc (Nat.le_refl _) _).alloc (by simp <;> omega) _).alloc (by simp <;> omega) _)
  have sW : w.heap.size + 3 ≤ (((w.alloc (.cells (wa R) 55)).alloc (.cells (wa m) 55)).alloc (.cells (wa 0) 55)).heap.size := by simp
  generalize (((w.alloc (.cells (wa R) 55)).alloc (.cells (wa m) 55)).alloc (.cells (wa 0) 55)) = W at *
  go_wp2_with (refine wpList_load_row rfl 55 _ rfl _ rfl 55 _ (0, 0) _ (by assumption) Tryd.underlying55 rfl Tryd.infoWa ?_)
  refine (Hg.out _).mono ?_
  rintro e w1 ⟨rfl, b1⟩
  replace f3 := Below.stays b1 f3
  replace f5 := Below.stays b1 f5
  replace f7 := Below.stays b1 f7
  replace bW := bW.trans (b1.mono bW.size)
  replace sW := Nat.le_trans sW b1.size
  clear b1
  go_wp2_with (refine wpList_load_row rfl 55 _ rfl _ rfl 55 _ (0, 0) _ (by assumption) Tryd.underlying55 rfl Tryd.infoWa ?_)
  refine (Ha.out _).mono ?_
  rintro e w2 ⟨rfl, b1⟩
  replace f3 := Below.stays b1 f3
  replace f5 := Below.stays b1 f5
  replace f7 := Below.stays b1 f7
  replace bW := bW.trans (b1.mono bW.size)
  replace sW := Nat.le_trans sW b1.size
  clear b1
  go_upto_region 3 with fail
  replace f3 := blk_alloc (o' := .cells (wa P) 55) f3
  replace f5 := blk_alloc (o' := .cells (wa P) 55) f5
  replace f7 := blk_alloc (o' := .cells (wa P) 55) f7
  have f9 : (w2.alloc (.cells (wa P) 55)).heap[w2.heap.size]? = some (.cells (wa P) 55) := heap_alloc_new _ _
  replace bW : Below w.heap.size w (w2.alloc (.cells (wa P) 55)) := bW.alloc (by omega) _
  have sb9 : w2.heap.size + 1 ≤ (w2.alloc (.cells (wa P) 55)).heap.size := by simp
  generalize (w2.alloc (.cells (wa P) 55)) = w3 at *
  generalize w2.heap.size = b9 at *
  have lb9 := sW
  replace sW := Nat.le_trans (Nat.le_succ_of_le sW) sb9
  have c0 := blk_cell (j := 0) f3 (show (wa R)[0]? = some (.int .u64 ((l0 R : Nat) : Int)) from rfl)
  have c1 := blk_cell (j := 1) f3 (show (wa R)[1]? = some (.int .u64 ((l1 R : Nat) : Int)) from rfl)
  have c2 := blk_cell (j := 2) f3 (show (wa R)[2]? = some (.int .u64 ((l2 R : Nat) : Int)) from rfl)
  have fo := fl.out
  go_upto_region 4 with fail
  clear c0 c1 c2 fo hz
  replace f3 := blk_alloc (o' := .cells (wa L) 55) f3
  replace f5 := blk_alloc (o' := .cells (wa L) 55) f5
  replace f7 := blk_alloc (o' := .cells (wa L) 55) f7
  replace f9 := blk_alloc (o' := .cells (wa L) 55) f9
  have f11 : (w3.alloc (.cells (wa L) 55)).heap[w3.heap.size]? = some (.cells (wa L) 55) := heap_alloc_new _ _
  replace bW : Below w.heap.size w (w3.alloc (.cells (wa L) 55)) := bW.alloc (by omega) _
  have sb11 : w3.heap.size + 1 ≤ (w3.alloc (.cells (wa L) 55)).heap.size := by simp
  generalize (w3.alloc (.cells (wa L) 55)) = w4 at *
  generalize w3.heap.size = b11 at *
  have lb11 := sW
  replace sW := Nat.le_trans (Nat.le_succ_of_le sW) sb11
  have c3 := blk_cell (j := 3) f3 (show (wa R)[3]? = some (.int .u64 ((l3 R : Nat) : Int)) from rfl)
  have hu := hu0.out
  go_upto_region 5 with fail
  clear c3 hu
  go_wp2_with (refine wpList_load_row rfl 55 _ rfl _ rfl 55 _ (0, 0) _ (by assumption) Tryd.underlying55 rfl Tryd.infoWa ?_)
  refine (Hc.out _).mono ?_
  rintro e w5 ⟨rfl, b1⟩
  replace f3 := Below.stays b1 f3
  replace f5 := Below.stays b1 f5
  replace f7 := Below.stays b1 f7
  replace f9 := Below.stays b1 f9
  replace f11 := Below.stays b1 f11
  replace bW := bW.trans (b1.mono bW.size)
  replace sW := Nat.le_trans sW b1.size
  clear b1
  go_upto_if 38 with fail
  go_cut [12] (fun s12 wx => s12 = .int .u64 (u1 : Int) ∧ w5 = wx)
  case first =>
    by_cases hc : c < 0
    · have hu := hu1.out hc
      go_wp2_with fail
      go_meet
      exact ⟨rfl, rfl⟩
    · obtain rfl := hu1'.out (by omega)
      go_wp2_with fail
      go_meet
      exact ⟨rfl, rfl⟩
  case rest =>
    obtain ⟨rfl, rfl⟩ := hcut
    clear hs hsz
    go_wp2_with (refine wpList_load_row rfl 55 _ rfl _ rfl 55 _ (0, 0) _ (by assumption) Tryd.underlying55 rfl Tryd.infoWa ?_)
    refine (Hs.out _).mono ?_
    rintro e w6 ⟨rfl, b1⟩
    replace f3 := Below.stays b1 f3
    replace f5 := Below.stays b1 f5
    replace f7 := Below.stays b1 f7
    replace f9 := Below.stays b1 f9
    replace f11 := Below.stays b1 f11
    replace bW := bW.trans (b1.mono bW.size)
    replace sW := Nat.le_trans sW b1.size
    clear b1
    go_upto_block 0 with (refine wpList_store_row rfl 55 _ _ rfl _ _ (wa D) rfl rfl f11 Tryd.infoWa rfl wa_one ?_)
    simp only [Act.put]
    replace f3 := blk_row_other (b := b11) (c' := wa D) f3 (by omega)
    replace f5 := blk_row_other (b := b11) (c' := wa D) f5 (by omega)
    replace f7 := blk_row_other (b := b11) (c' := wa D) f7 (by omega)
    replace f9 := blk_row_other (b := b11) (c' := wa D) f9 (by omega)
    replace f11 := blk_row (c' := wa D) f11
    replace bW : Below w.heap.size w (w6.setRow (b11) (wa D)) := below_setRow bW (by omega) _
    replace sW := Nat.le_trans sW (Nat.le_of_eq (setRow_size w6 (b11) (wa D)).symm)
    generalize (w6.setRow (b11) (wa D)) = w7 at *
    go_wp2_with fail
    go_loopw [8, 12] (fun s8 s12 wr => ∃ d u l : Nat, s8 = .int .u64 ((q + d : Nat) : Int) ∧ s12 = .int .u64 (u : Int) ∧ d ≤ 2 ∧ q + d ≤ g ∧ u < B ∧ Hid (Over r m d u l) ∧ wr.heap[b11]? = some (.cells (wa l) 55) ∧ wr.heap[w.heap.size + 1]? = some (.cells (wa m) 55) ∧ wr.heap[w.heap.size + 1 + 1]? = some (.cells (wa 0) 55) ∧ Below w.heap.size w wr) (fun s8 _ _ => (intOf s8).toNat)
    case atStart => exact ⟨d0, u1, D, by rw [hg0.out], rfl, hd0, by rw [hg0.out]; exact Nat.le_refl _, hov.out.2.1, hov, f11, f5, f7, bW⟩
    case round =>
      clear f11 f5 f7 bW f3 f9 sW hov
      obtain ⟨d, u, l, rfl, rfl, hd, hqd, hub, ho, f11, f5, f7, bW⟩ := hrel
      simp only [B] at hub hgB
      by_cases hdz : d = 0
      · obtain ⟨hu0, hl⟩ := over_zero hrM.out (hdz ▸ ho.out)
        subst hu0 hdz
        have HL := Lib.hid hl
        clear hl
        obtain rfl : l = r := HL.out
        go_wp2_with fail
        refine region_last (aQ := ?aQ) 3 (by kernel_rfl) (by kernel_rfl) (fun w1 => ?hq) (fun w' hb => ?hh)
        case hq =>
          simp only [List.take_succ_cons, List.take_zero]
          repeat (first | (go_big_quiet_want; refine quiet_load_row 55 _ rfl _ (wa l) rfl (fun w2 hw2 => by obtain ⟨g, rfl⟩ := hw2; exact g.block (w1.block f11)) Tryd.underlying55 Tryd.infoWa ?_; simp only [Act.put, List.setIfInBounds_toArray, List.set_cons_succ, List.set_cons_zero]; go_big_quiet_on) | go_big_quiet_step (fail))
          refine wpQuiet_nil ?_
          rfl
        case hh =>
          replace f7 := Ext.block ⟨w', hb⟩ f7
          replace bW := bW.trans (hb.mono bW.size)
          simp only [List.drop_succ_cons, List.drop_zero]
          refine wpList_store_row rfl 55 _ _ rfl _ _ (wa l) rfl rfl f7 Tryd.infoWa rfl wa_one ?_
          refine wpList_nil ?_
          go_wp2_with fail
          have c0 := word_cells (blk_row (c' := wa l) f7)
          refine bodyPost_ret (v := .tuple #[.int .u64 (q : Int), wd l]) (by simp [results, Tryd.results85, go_sem, c0, fold_wa]) rfl ⟨rfl, below_setRow bW (by omega) _⟩
      · obtain ⟨d', rfl⟩ : ∃ d', d = d' + 1 := ⟨d - 1, by omega⟩
        have hup := over_pos hrm.out hmM.out hd hdz ho.out
        have hst := over_step hmM.out ho.out
        have cu : (((u : Nat) : Int) != 0) = true := by rw [bne_iff_ne]; omega
        have HO := Lib.hid hst
        clear hst hdz ho hup
        go_wp2_with (refine wpList_load_row rfl 55 _ rfl _ rfl 55 _ (0, 0) _ (by assumption) Tryd.underlying55 rfl Tryd.infoWa ?_)
        refine (add_wd l m _).mono ?_
        rintro e w8 ⟨rfl, b1⟩
        replace f11 := Below.stays b1 f11
        replace f5 := Below.stays b1 f5
        replace f7 := Below.stays b1 f7
        replace bW := bW.trans (b1.mono bW.size)
        clear b1
        go_upto_region 11 with (refine wpList_store_row rfl 55 _ _ rfl _ _ (wa (l + m)) rfl rfl f11 Tryd.infoWa rfl wa_one ?_)
        simp only [Act.put]
        replace f5 := blk_row_other (b := b11) (c' := wa (l + m)) f5 (by omega)
        replace f7 := blk_row_other (b := b11) (c' := wa (l + m)) f7 (by omega)
        replace f11 := blk_row (c' := wa (l + m)) f11
        replace bW : Below w.heap.size w (w8.setRow b11 (wa (l + m))) := below_setRow bW (by omega) _
        generalize w8.setRow b11 (wa (l + m)) = w9 at *
        go_wp2_with (refine wpList_load_row rfl 55 _ rfl _ rfl 55 _ (0, 0) _ (by assumption) Tryd.underlying55 rfl Tryd.infoWa ?_)
        by_cases hcar : (l + m) % M < m % M
        · refine (cmp_lt (l + m) m hcar _).mono ?_
          rintro e w8 ⟨rfl, b1⟩
          go_wp2_with fail
          refine ⟨⟨d', (u + 1) % B, (l + m) % M, congrArg (Value.int .u64) (by omega), congrArg (Value.int .u64) (by rw [IntKind.wrap_u64]; simp only [B]; omega), by omega, by omega, by simp only [B]; omega, ?_, ?_, Below.stays b1 f5, Below.stays b1 f7, bW.trans (b1.mono bW.size)⟩, by simp only [intOf]; omega⟩
          · have := HO.out
            rw [if_pos (by rw [Nat.mod_eq_of_lt hmM.out] at hcar; exact hcar)] at this
            exact Lib.hid this
          · rw [wa_congr (show (l + m) % M % M = (l + m) % M from Nat.mod_mod _ _)]
            exact Below.stays b1 f11
        · obtain ⟨z, hz0, Hz⟩ := cmp_ge (l + m) m hcar
          have HZ := Lib.hid Hz
          clear Hz
          refine (HZ.out _).mono ?_
          rintro e w8 ⟨rfl, b1⟩
          go_wp2_with fail
          refine ⟨⟨d', u, (l + m) % M, congrArg (Value.int .u64) (by omega), congrArg (Value.int .u64) (rfl), by omega, by omega, by simp only [B]; omega, ?_, ?_, Below.stays b1 f5, Below.stays b1 f7, bW.trans (b1.mono bW.size)⟩, by simp only [intOf]; omega⟩
          · have := HO.out
            rw [if_neg (by rw [Nat.mod_eq_of_lt hmM.out] at hcar; exact hcar), Nat.add_zero, Nat.mod_eq_of_lt (by simp only [B]; exact hub)] at this
            exact Lib.hid this
          · rw [wa_congr (show (l + m) % M % M = (l + m) % M from Nat.mod_mod _ _)]
            exact Below.stays b1 f11
end Go.Proofs.YtihefgpicnhdjaaDoor
/- What the function digit of package wide does, in numbers: a part of a quotient, and what is left; all older memory is as it was. -/
namespace Go.Proofs.YtihefgpicnhdjaaDoor
open Go.RowKit SmWord
set_option maxRecDepth 100000

theorem top_part {m : Nat} (hm : m < M) (ht : M ≤ 2 * m) : 9223372036854775808 ≤ l3 m := by
  have em : num (l0 m) (l1 m) (l2 m) (l3 m) = m := by rw [num_parts, Nat.mod_eq_of_lt hm]
  obtain ⟨A0, A1, A2, A3⟩ := l_lt m
  have hM : M = B * (B * (B * B)) := by decide
  unfold num at em
  rw [hM] at ht
  simp only [B] at *
  omega
theorem up_wa (R x : Nat) (hx : x < B) :
    ((((wa 0).setIfInBounds 0 (Value.int .u64 (x : Int))).setIfInBounds 1 (.int .u64 ((l0 R : Nat) : Int))).setIfInBounds 2 (.int .u64 ((l1 R : Nat) : Int))).setIfInBounds 3 (.int .u64 ((l2 R : Nat) : Int)) = wa (R * B + x) := by
  obtain ⟨A0, A1, A2, A3⟩ := l_lt R
  have e : (num x (l0 R) (l1 R) (l2 R)) % M = (R * B + x) % M := by
    have hM : M = B * (B * (B * B)) := by decide
    have er := num_parts R
    have e2 : num (l0 R) (l1 R) (l2 R) (l3 R) * B + x = num x (l0 R) (l1 R) (l2 R) + M * l3 R := by
      rw [hM]; unfold num; simp only [B]; omega
    have e3 : (R * B + x) % M = (R % M * B + x) % M := by
      rw [← Nat.mod_add_mod, ← Nat.mod_mul_mod, Nat.mod_add_mod]
    rw [e3, ← er, e2, Nat.add_mul_mod_self_left]
  have h := wd_num hx A0 A1 A2
  rw [wd_congr e] at h
  exact (Value.agg.inj h).symm

theorem dg_u0 {a ov : Nat} (_h3 : a < B) (_hP : ov < B) : IntKind.u64.wrap ((a : Int) - (ov : Int)) = (((a + B - ov) % B : Nat) : Int) := by
  rw [IntKind.wrap_u64]; simp only [B] at *; omega
theorem dg_u1 {a ov : Nat} (_h3 : a < B) (_hP : ov < B) : IntKind.u64.wrap ((((a + B - ov) % B : Nat) : Int) - 1) = (((a + B - ov + (B - 1)) % B : Nat) : Int) := by
  rw [IntKind.wrap_u64]; simp only [B] at *; omega

theorem digit_wd (R x m : Nat) (hR : R < m) (hx : x < B) (hm : m < M) (ht : M ≤ 2 * m) (w : World) :
    Calls Tryd.prog 85 #[wd R, .int .u64 (x : Int), wd m] w fun e w' => e = .returned (.tuple #[.int .u64 (((R * B + x) / m : Nat) : Int), wd ((R * B + x) % m)]) ∧ Below w.heap.size w w' := by
  have hg := gs_lt R m
  obtain ⟨n1, n2⟩ := gs_near hR hx hm ht
  have hst := over_start hR hx hm hg rfl (d := gs R m - (R * B + x) / m) (by omega)
  have hM0 : 0 < M := by decide
  have hP : gs R m * m / M < B := by
    rw [Nat.div_lt_iff_lt_mul hM0]
    have h1 : gs R m * m ≤ gs R m * M := Nat.mul_le_mul_left _ (by omega)
    have h2 : (gs R m + 1) * M ≤ B * M := Nat.mul_le_mul_right _ hg
    rw [Nat.add_mul] at h2; omega
  have h3 := (l_lt R).2.2.2
  have hD : ((((R * B + x) % M + M - gs R m * m % M) % M) + gs R m * m) % M = (R * B + x) % M := by
    have t1 := Nat.mod_lt (R * B + x) hM0
    have t2 := Nat.mod_lt (gs R m * m) hM0
    rw [Nat.mod_add_mod, ← Nat.add_mod_mod, show (R * B + x) % M + M - gs R m * m % M + gs R m * m % M = (R * B + x) % M + M by omega, Nat.add_mod_right, Nat.mod_mod]
  have hr := Nat.mod_lt (R * B + x) (show 0 < m by omega)
  have hgs : ∀ w : World, Calls Tryd.prog 89 #[wd 0, wd m, .int .u64 ((gs R m : Nat) : Int)] w fun e w' => e = .returned (.tuple #[wd (gs R m * m), .int .u64 ((gs R m * m / M : Nat) : Int)]) ∧ Below w.heap.size w w' := fun w => by
    have := addTimes_wd 0 m (gs R m) hg w
    rw [show 0 % M + m % M * gs R m = gs R m * m by rw [Nat.mod_eq_of_lt hm, Nat.zero_mod, Nat.zero_add, Nat.mul_comm]] at this
    exact this
  refine digit_walk R m (R * B + x) (gs R m * m) _ (gs R m) (gs R m * m / M) ((l3 R + B - gs R m * m / M) % B) _ ((R * B + x) / m) ((R * B + x) % m) (gs R m - (R * B + x) / m) x (cmpN ((R * B + x) % M) (gs R m * m % M)) w
    (Lib.hid fun w => guess_wd R m (top_part hm ht) w) (Lib.hid hgs) (Lib.hid (up_wa R x hx)) (Lib.hid fun w => compare_wd _ _ w) (Lib.hid fun w => sub_wd _ _ _ w hD)
    (Lib.hid ?_) (Lib.hid fun hc => ?_) (Lib.hid fun hc => ?_) (Lib.hid (by omega)) hg (by omega) (Lib.hid hst) (Lib.hid hr) (Lib.hid (by omega)) (Lib.hid hm)
  · exact dg_u0 h3 hP
  · have : (R * B + x) % M < gs R m * m % M := by
      unfold cmpN at hc; split at hc
      · assumption
      · split at hc <;> omega
    rw [if_pos this]
    exact dg_u1 h3 hP
  · have : ¬ (R * B + x) % M < gs R m * m % M := by
      unfold cmpN at hc; split at hc
      · omega
      · assumption
    rw [if_neg this, Nat.add_zero]
end Go.Proofs.YtihefgpicnhdjaaDoor
/- Plain arithmetic on long division of a word, shifted: no program is named here. -/
namespace Go.Proofs.YtihefgpicnhdjaaDoor.SmWord

theorem or_parts (a b : Nat) : num (l0 a ||| l0 b) (l1 a ||| l1 b) (l2 a ||| l2 b) (l3 a ||| l3 b) = (a ||| b) % M := by
  rw [← num_parts]
  have hB : B = 2 ^ 64 := by decide
  have d : ∀ x y : Nat, (x ||| y) / B = x / B ||| y / B := fun x y => by rw [hB]; exact Nat.or_div_two_pow
  have m : ∀ x y : Nat, (x ||| y) % B = x % B ||| y % B := fun x y => by rw [hB]; exact Nat.or_mod_two_pow
  unfold l0 l1 l2 l3
  simp only [d, m]
theorem or_apart {x s b : Nat} (hb : b < 2 ^ s) : x * 2 ^ s ||| b = x * 2 ^ s + b := Go.nat_join s (x * 2 ^ s) b (Nat.mul_mod_left _ _) hb

/-- What stands above the j lowest parts, when a rest R and a lower word L are divided. -/
def xk (R L j : Nat) : Nat := R * B ^ (4 - j) + L / B ^ j
theorem xk_top {R L : Nat} (hL : L < M) : xk R L 4 = R := by
  unfold xk
  have : L / B ^ 4 = 0 := Nat.div_eq_of_lt (by rw [show B ^ 4 = M by decide]; exact hL)
  rw [this]; simp
theorem xk_zero (R L : Nat) : xk R L 0 = R * M + L := by
  unfold xk
  rw [show B ^ (4 - 0) = M by decide, Nat.pow_zero, Nat.div_one]
theorem xk_step (R L j : Nat) (hj : j < 4) : xk R L j = xk R L (j + 1) * B + lb L j := by
  unfold xk lb
  have e : 4 - j = (4 - (j + 1)) + 1 := by omega
  have h := Nat.div_add_mod (L / B ^ j) B
  rw [Nat.div_div_eq_div_mul, ← Nat.pow_succ] at h
  rw [e, Nat.pow_succ, Nat.add_mul, ← Nat.mul_assoc]
  generalize R * B ^ (4 - (j + 1)) = z
  generalize L / B ^ j % B = y at *
  generalize L / B ^ j = u at *
  generalize L / B ^ (j + 1) = v at *
  simp only [B] at *
  omega
theorem xk_div (R L j m : Nat) (hj : j < 4) (hm : 0 < m) :
    xk R L j / m = xk R L (j + 1) / m * B + (xk R L (j + 1) % m * B + lb L j) / m ∧ xk R L j % m = (xk R L (j + 1) % m * B + lb L j) % m := by
  rw [xk_step R L j hj]
  have e := Nat.div_add_mod (xk R L (j + 1)) m
  have key : xk R L (j + 1) * B + lb L j = xk R L (j + 1) % m * B + lb L j + m * (xk R L (j + 1) / m * B) := by
    rw [← Nat.mul_assoc]
    generalize xk R L (j + 1) % m = r at *
    generalize m * (xk R L (j + 1) / m) = z at *
    rw [← e, Nat.add_mul]
    omega
  generalize xk R L (j + 1) = X at *
  rw [key, Nat.add_mul_div_left _ _ hm, Nat.add_mul_mod_self_left]
  exact ⟨Nat.add_comm _ _, rfl⟩
def qk (R L m j : Nat) : Nat := xk R L j / m * B ^ j
theorem qk_step (R L j m : Nat) (hj : j < 4) (hm : 0 < m) : qk R L m j = qk R L m (j + 1) + (xk R L (j + 1) % m * B + lb L j) / m * B ^ j := by
  unfold qk
  rw [(xk_div R L j m hj hm).1, Nat.add_mul, Nat.pow_succ, Nat.mul_assoc, Nat.mul_comm B]
theorem part_low (b y : Nat) {i j : Nat} (hb : 0 < b) (h : i < j) : y * b ^ j / b ^ i % b = 0 := by
  have e : b ^ j = b ^ i * (b * b ^ (j - i - 1)) := by rw [← Nat.pow_succ', ← Nat.pow_add]; congr 1; omega
  have e2 : y * (b ^ i * (b * b ^ (j - i - 1))) = b ^ i * (b * (y * b ^ (j - i - 1))) := by
    rw [Nat.mul_left_comm, Nat.mul_left_comm y]
  rw [e, e2, Nat.mul_div_cancel_left _ (Nat.pow_pos hb), Nat.mul_mod_right]
theorem part_up (b y : Nat) {i j : Nat} (hb : 0 < b) (h : j < i) : y * b ^ j / b ^ i % b = y / b / b ^ (i - j - 1) % b := by
  have e : b ^ i = b ^ j * (b * b ^ (i - j - 1)) := by rw [← Nat.pow_succ', ← Nat.pow_add]; congr 1; omega
  rw [e, ← Nat.div_div_eq_div_mul, Nat.mul_div_cancel _ (Nat.pow_pos hb), ← Nat.div_div_eq_div_mul]
theorem part_set (b q d j i : Nat) (hb : 0 < b) (hd : d < b) : (q * b ^ (j + 1) + d * b ^ j) / b ^ i % b = if i = j then d else q * b ^ (j + 1) / b ^ i % b := by
  have e : q * b ^ (j + 1) + d * b ^ j = (q * b + d) * b ^ j := by rw [Nat.pow_succ, Nat.add_mul, Nat.mul_assoc, Nat.mul_comm b]
  have e' : q * b ^ (j + 1) = (q * b) * b ^ j := by rw [Nat.pow_succ, Nat.mul_assoc, Nat.mul_comm b]
  rw [e, e']
  rcases Nat.lt_trichotomy i j with h | h | h
  · rw [if_neg (by omega), part_low b _ hb h, part_low b _ hb h]
  · subst h
    rw [if_pos rfl, Nat.mul_div_cancel _ (Nat.pow_pos hb), Nat.add_comm, Nat.add_mul_mod_self_right, Nat.mod_eq_of_lt hd]
  · rw [if_neg (by omega), part_up b _ hb h, part_up b _ hb h, Nat.mul_comm q b, Nat.mul_add_div hb, Nat.div_eq_of_lt hd, Nat.mul_div_cancel_left _ hb, Nat.add_zero]
/-- A part that is 0, with 0 below it, set. -/
theorem lb_set (q d j i : Nat) (hd : d < B) : lb (q * B ^ (j + 1) + d * B ^ j) i = if i = j then d else lb (q * B ^ (j + 1)) i := by
  unfold lb
  exact part_set B q d j i (by decide) hd

/-- The shift. -/
theorem dv_shift {m : Nat} (hm : m < M) (h0 : m ≠ 0) : ∃ s : Nat, s ≤ 255 ∧ bl m = 256 - s ∧ m * 2 ^ s < M ∧ M ≤ 2 * (m * 2 ^ s) := by
  obtain ⟨k, e, h1, h2⟩ := bl_spec h0
  have hk : k < 256 := by
    apply Nat.lt_of_not_le
    intro h
    have : 2 ^ 256 ≤ 2 ^ k := Nat.pow_le_pow_right (by decide) h
    rw [M_2] at hm
    omega
  refine ⟨255 - k, by omega, by omega, ?_, ?_⟩
  · have : m * 2 ^ (255 - k) < 2 ^ (k + 1) * 2 ^ (255 - k) := Nat.mul_lt_mul_of_pos_right h2 (Nat.two_pow_pos _)
    rw [← Nat.pow_add, show k + 1 + (255 - k) = 256 by omega, ← M_2] at this
    exact this
  · have : 2 ^ k * 2 ^ (255 - k) ≤ m * 2 ^ (255 - k) := Nat.mul_le_mul_right _ h1
    rw [← Nat.pow_add, show k + (255 - k) = 255 by omega] at this
    have h3 : M = 2 * 2 ^ 255 := by decide
    rw [h3]
    exact Nat.mul_le_mul_left _ this
/-- What is shifted, put together again. -/
theorem dv_join {H L s : Nat} (hs : s ≤ 256) : (H * 2 ^ s + L / 2 ^ (256 - s)) * M + L * 2 ^ s % M = (H * M + L) * 2 ^ s := by
  have e : L / 2 ^ (256 - s) = L * 2 ^ s / M := by
    rw [M_2, show (256 : Nat) = (256 - s) + s by omega, Nat.pow_add, show 256 - s + s - s = 256 - s by omega, Nat.mul_div_mul_right _ _ (Nat.two_pow_pos s)]
  have d := Nat.div_add_mod (L * 2 ^ s) M
  rw [e, Nat.add_mul, Nat.add_mul]
  rw [Nat.mul_comm M] at d
  have : H * 2 ^ s * M = H * M * 2 ^ s := Nat.mul_right_comm _ _ _
  omega
theorem dv_low {L s : Nat} (hL : L < M) (hs : s ≤ 256) : L / 2 ^ (256 - s) < 2 ^ s := by
  rw [Nat.div_lt_iff_lt_mul (Nat.two_pow_pos _), ← Nat.pow_add, show s + (256 - s) = 256 by omega, ← M_2]
  exact hL
theorem dv_rest {H m s b : Nat} (hH : H < m) (hb : b < 2 ^ s) : H * 2 ^ s + b < m * 2 ^ s := by
  have : (H + 1) * 2 ^ s ≤ m * 2 ^ s := Nat.mul_le_mul_right _ hH
  rw [Nat.add_mul] at this
  omega
end Go.Proofs.YtihefgpicnhdjaaDoor.SmWord
/- What the function divide of package wide does, walked: its parts are named by contracts; all older memory is as it was. -/
namespace Go.Proofs.YtihefgpicnhdjaaDoor
open Go.RowKit SmWord
set_option maxRecDepth 100000

theorem store_old {w : World} {b n m : Nat} (hb : w.heap[b]? = some (.cells (wa n) 55)) : (storeCells ⟨b, 0, none⟩ (wa m).toList 0).run Tryd.prog w = .ok () (w.setRow b (wa m)) := by
  have := run_storeCells_from (P := Tryd.prog) b _ (wa m).toList 0 (wa n) w hb (by simp [wa_size]) (fun v hv => (Array.all_eq_true_iff_forall_mem.1 (wa_one (n := m))) v (by simpa using hv))
  simpa using this

set_option maxHeartbeats 2000000 in
theorem divide_walk (h l m m1 hs ls L1 : Nat) (s : Nat) (rk qk dk : Nat → Nat) (ro : Nat) (w : World)
   (hE : Hid (∀ w : World, (Op.equalIn 10000 55 (.agg (wa m)) (.agg (wa 0))).run Tryd.prog w = .ok false w))
   (_hs0 : 0 ≤ s) (_hs1 : s ≤ 255)
   (Hl : Hid (∀ w : World, Calls Tryd.prog 32 #[wd m] w fun e w' => e = .returned (.int .i64 (256 - (s : Int))) ∧ Below w.heap.size w w'))
   (H1 : Hid (∀ w : World, Calls Tryd.prog 35 #[wd m, .int .u64 (s : Int)] w fun e w' => e = .returned (wd m1) ∧ Below w.heap.size w w'))
   (H2 : Hid (∀ w : World, Calls Tryd.prog 35 #[wd h, .int .u64 (s : Int)] w fun e w' => e = .returned (wd hs) ∧ Below w.heap.size w w'))
   (H3 : Hid (∀ w : World, Calls Tryd.prog 58 #[wd l, .int .u64 (256 - (s : Int))] w fun e w' => e = .returned (wd ls) ∧ Below w.heap.size w w'))
   (H4 : Hid (∀ w : World, Calls Tryd.prog 54 #[wd hs, wd ls] w fun e w' => e = .returned (wd (rk 4)) ∧ Below w.heap.size w w'))
   (H5 : Hid (∀ w : World, Calls Tryd.prog 35 #[wd l, .int .u64 (s : Int)] w fun e w' => e = .returned (wd L1) ∧ Below w.heap.size w w'))
   (hq4 : Hid (qk 4 = 0)) (Hd : Hid (∀ j, j < 4 → ∀ w : World, Calls Tryd.prog 85 #[wd (rk (j + 1)), .int .u64 ((lb L1 j : Nat) : Int), wd m1] w fun e w' => e = .returned (.tuple #[.int .u64 ((dk j : Nat) : Int), wd (rk j)]) ∧ Below w.heap.size w w'))
   (Hq : Hid (∀ j, j < 4 → (wa (qk (j + 1))).setIfInBounds j (.int .u64 ((dk j : Nat) : Int)) = wa (qk j)))
   (H6 : Hid (∀ w : World, Calls Tryd.prog 58 #[wd (rk 0), .int .u64 (s : Int)] w fun e w' => e = .returned (wd ro) ∧ Below w.heap.size w w')) :
    Calls Tryd.prog 73 #[wd h, wd l, wd m] w fun e w' => e = .returned (.tuple #[wd (qk 0), wd ro]) ∧ Below w.heap.size w w' := by
  have hz := z4_wa
  have hsz := wa_size
  go_enter Tryd.func73, Tryd.ntmps73
  go_upto_region 1 with fail
  have f3 : (((((w.alloc (.cells (wa h) 55)).alloc (.cells (wa l) 55)).alloc (.cells (wa m) 55)).alloc (.cells (wa 0) 55)).alloc (.cells (wa 0) 55)).heap[w.heap.size]? = some (.cells (wa h) 55) := blk_alloc (blk_alloc (blk_alloc (blk_alloc (blk_new _ rfl))))
  have f4 : (((((w.alloc (.cells (wa h) 55)).alloc (.cells (wa l) 55)).alloc (.cells (wa m) 55)).alloc (.cells (wa 0) 55)).alloc (.cells (wa 0) 55)).heap[w.heap.size + 1]? = some (.cells (wa l) 55) := blk_alloc (blk_alloc (blk_alloc (blk_new _ (by simp))))
  have f5 : (((((w.alloc (.cells (wa h) 55)).alloc (.cells (wa l) 55)).alloc (.cells (wa m) 55)).alloc (.cells (wa 0) 55)).alloc (.cells (wa 0) 55)).heap[w.heap.size + 1 + 1]? = some (.cells (wa m) 55) := blk_alloc (blk_alloc (blk_new _ (by simp)))
  have f6 : (((((w.alloc (.cells (wa h) 55)).alloc (.cells (wa l) 55)).alloc (.cells (wa m) 55)).alloc (.cells (wa 0) 55)).alloc (.cells (wa 0) 55)).heap[w.heap.size + 1 + 1 + 1]? = some (.cells (wa 0) 55) := blk_alloc (blk_new _ (by simp))
  have f7 : (((((w.alloc (.cells (wa h) 55)).alloc (.cells (wa l) 55)).alloc (.cells (wa m) 55)).alloc (.cells (wa 0) 55)).alloc (.cells (wa 0) 55)).heap[w.heap.size + 1 + 1 + 1 + 1]? = some (.cells (wa 0) 55) := blk_new _ (by simp)
  have bW : Below w.heap.size w (((((w.alloc (.cells (wa h) 55)).alloc (.cells (wa l) 55)).alloc (.cells (wa m) 55)).alloc (.cells (wa 0) 55)).alloc (.cells (wa 0) 55)) := ((((((Below.refl _ _).alloc (Nat.le_refl _) _).alloc (by simp <;> omega) _).alloc (by simp <;> omega) _).alloc (by simp <;> omega) _).alloc (by simp <;> omega) _)
  have sW : w.heap.size + 5 ≤ (((((w.alloc (.cells (wa h) 55)).alloc (.cells (wa l) 55)).alloc (.cells (wa m) 55)).alloc (.cells (wa 0) 55)).alloc (.cells (wa 0) 55)).heap.size := by simp
  generalize (((((w.alloc (.cells (wa h) 55)).alloc (.cells (wa l) 55)).alloc (.cells (wa m) 55)).alloc (.cells (wa 0) 55)).alloc (.cells (wa 0) 55)) = W at *
  have he := hE.out
  have hg := Tryd.guardW
  go_upto_region 3 with (refine wpList_load_row rfl 55 _ rfl _ rfl 55 _ (0, 0) _ (by assumption) Tryd.underlying55 rfl Tryd.infoWa ?_)
  clear he hg
  go_wp2_with (refine wpList_load_row rfl 55 _ rfl _ rfl 55 _ (0, 0) _ (by assumption) Tryd.underlying55 rfl Tryd.infoWa ?_)
  refine (Hl.out _).mono ?_
  rintro e w1 ⟨rfl, b1⟩
  replace f3 := Below.stays b1 f3
  replace f4 := Below.stays b1 f4
  replace f5 := Below.stays b1 f5
  replace f6 := Below.stays b1 f6
  replace f7 := Below.stays b1 f7
  replace bW := bW.trans (b1.mono bW.size)
  replace sW := Nat.le_trans sW b1.size
  clear b1
  go_wp2_with (refine wpList_load_row rfl 55 _ rfl _ rfl 55 _ (0, 0) _ (by assumption) Tryd.underlying55 rfl Tryd.infoWa ?_)
  rw [show (256 : Int) - (256 - (s : Int)) = (s : Int) by omega]
  refine (H1.out _).mono ?_
  rintro e w2 ⟨rfl, b1⟩
  replace f3 := Below.stays b1 f3
  replace f4 := Below.stays b1 f4
  replace f5 := Below.stays b1 f5
  replace f6 := Below.stays b1 f6
  replace f7 := Below.stays b1 f7
  replace bW := bW.trans (b1.mono bW.size)
  replace sW := Nat.le_trans sW b1.size
  clear b1
  go_upto_region 5 with (refine wpList_store_row rfl 55 _ _ rfl _ _ (wa m1) rfl rfl f5 Tryd.infoWa rfl wa_one ?_)
  simp only [Act.put]
  replace f3 := blk_row_other (b := w.heap.size + 1 + 1) (c' := wa m1) f3 (by omega)
  replace f4 := blk_row_other (b := w.heap.size + 1 + 1) (c' := wa m1) f4 (by omega)
  replace f6 := blk_row_other (b := w.heap.size + 1 + 1) (c' := wa m1) f6 (by omega)
  replace f7 := blk_row_other (b := w.heap.size + 1 + 1) (c' := wa m1) f7 (by omega)
  replace f5 := blk_row (c' := wa m1) f5
  replace bW : Below w.heap.size w (w2.setRow (w.heap.size + 1 + 1) (wa m1)) := below_setRow bW (by omega) _
  replace sW := Nat.le_trans sW (Nat.le_of_eq (setRow_size w2 (w.heap.size + 1 + 1) (wa m1)).symm)
  generalize (w2.setRow (w.heap.size + 1 + 1) (wa m1)) = w3 at *
  refine region_mk1 (aQ := ?aQ) 8 ⟨8, 9, 55, 9, 31, #[.int .u64 0, .int .u64 0, .int .u64 0, .int .u64 0], wa (rk 4)⟩ (by kernel_rfl) (by kernel_rfl) (fun w1x => ?hq) ?hok ?hh
  case hq =>
    simp only [List.take_succ_cons, List.take_zero]
    repeat (first | (go_big_quiet_want; refine quiet_load_row 55 _ rfl _ (wa h) rfl (fun w2 hw2 => by obtain ⟨g, rfl⟩ := hw2; exact g.block (w1x.block f3)) Tryd.underlying55 Tryd.infoWa ?_; simp only [Act.put, List.setIfInBounds_toArray, List.set_cons_succ, List.set_cons_zero]; go_big_quiet_on) | (go_big_quiet_want; refine quiet_load_row 55 _ rfl _ (wa l) rfl (fun w2 hw2 => by obtain ⟨g, rfl⟩ := hw2; exact g.block (w1x.block f4)) Tryd.underlying55 Tryd.infoWa ?_; simp only [Act.put, List.setIfInBounds_toArray, List.set_cons_succ, List.set_cons_zero]; go_big_quiet_on) | go_big_quiet_step (first | (go_at_call 35; with_reducible exact calls_ext (H2.out _)) | (go_at_call 58; with_reducible exact calls_ext (H3.out _)) | (go_at_call 54; with_reducible exact calls_ext (H4.out _))))
    refine wpQuiet_nil ?_
    rfl
  case hok => exact ⟨Tryd.zeroValue55, Tryd.infoW, rfl, by simp [wa, Value.oneCell'], by simp, rfl⟩
  case hh =>
    intro b9 w4 b1 lb9 f9
    simp only [Act.put, List.setIfInBounds_toArray, List.set_cons_succ, List.set_cons_zero]
    replace lb9 := Nat.le_trans sW lb9
    replace f3 := Below.stays b1 f3
    replace f4 := Below.stays b1 f4
    replace f5 := Below.stays b1 f5
    replace f6 := Below.stays b1 f6
    replace f7 := Below.stays b1 f7
    replace bW := bW.trans (b1.mono bW.size)
    replace sW := Nat.le_trans sW b1.size
    clear b1
    go_wp2_with (refine wpList_load_row rfl 55 _ rfl _ rfl 55 _ (0, 0) _ (by assumption) Tryd.underlying55 rfl Tryd.infoWa ?_)
    refine (H5.out _).mono ?_
    rintro e w5 ⟨rfl, b1⟩
    replace f3 := Below.stays b1 f3
    replace f4 := Below.stays b1 f4
    replace f5 := Below.stays b1 f5
    replace f6 := Below.stays b1 f6
    replace f7 := Below.stays b1 f7
    replace f9 := Below.stays b1 f9
    replace bW := bW.trans (b1.mono bW.size)
    replace sW := Nat.le_trans sW b1.size
    clear b1
    go_upto_region 7 with (refine wpList_store_row rfl 55 _ _ rfl _ _ (wa L1) rfl rfl f4 Tryd.infoWa rfl wa_one ?_)
    simp only [Act.put]
    replace f3 := blk_row_other (b := w.heap.size + 1) (c' := wa L1) f3 (by omega)
    replace f5 := blk_row_other (b := w.heap.size + 1) (c' := wa L1) f5 (by omega)
    replace f6 := blk_row_other (b := w.heap.size + 1) (c' := wa L1) f6 (by omega)
    replace f7 := blk_row_other (b := w.heap.size + 1) (c' := wa L1) f7 (by omega)
    replace f9 := blk_row_other (b := w.heap.size + 1) (c' := wa L1) f9 (by omega)
    replace f4 := blk_row (c' := wa L1) f4
    replace bW : Below w.heap.size w (w5.setRow (w.heap.size + 1) (wa L1)) := below_setRow bW (by omega) _
    replace sW := Nat.le_trans sW (Nat.le_of_eq (setRow_size w5 (w.heap.size + 1) (wa L1)).symm)
    generalize (w5.setRow (w.heap.size + 1) (wa L1)) = w6 at *
    go_upto_block 0 with fail
    have ub9 : b9 + 1 ≤ w6.heap.size := (Array.getElem?_eq_some_iff.1 f9).1
    replace f3 := blk_alloc (o' := .cells (wa 0) 55) f3
    replace f4 := blk_alloc (o' := .cells (wa 0) 55) f4
    replace f5 := blk_alloc (o' := .cells (wa 0) 55) f5
    replace f6 := blk_alloc (o' := .cells (wa 0) 55) f6
    replace f7 := blk_alloc (o' := .cells (wa 0) 55) f7
    replace f9 := blk_alloc (o' := .cells (wa 0) 55) f9
    have f10 : (w6.alloc (.cells (wa 0) 55)).heap[w6.heap.size]? = some (.cells (wa 0) 55) := heap_alloc_new _ _
    replace bW : Below w.heap.size w (w6.alloc (.cells (wa 0) 55)) := bW.alloc (by omega) _
    have sb10 : w6.heap.size + 1 ≤ (w6.alloc (.cells (wa 0) 55)).heap.size := by simp
    generalize (w6.alloc (.cells (wa 0) 55)) = w7 at *
    generalize w6.heap.size = b10 at *
    have lb10 := sW
    replace sW := Nat.le_trans (Nat.le_succ_of_le sW) sb10
    clear hz hsz f3
    go_wp2_with fail
    go_loopw [11] (fun i wr => ∃ n : Nat, n ≤ 4 ∧ i = .int .i64 ((n : Int) - 1) ∧ wr.heap[b9]? = some (.cells (wa (rk n)) 55) ∧ wr.heap[b10]? = some (.cells (wa (qk n)) 55) ∧ wr.heap[w.heap.size + 1]? = some (.cells (wa L1) 55) ∧ wr.heap[w.heap.size + 1 + 1]? = some (.cells (wa m1) 55) ∧ wr.heap[w.heap.size + 1 + 1 + 1]? = some (.cells (wa 0) 55) ∧ wr.heap[w.heap.size + 1 + 1 + 1 + 1]? = some (.cells (wa 0) 55) ∧ Below w.heap.size w wr) (fun i _ => (intOf i + 1).toNat)
    case atStart => exact ⟨4, Nat.le_refl _, rfl, f9, by rw [hq4.out]; exact f10, f4, f5, f6, f7, bW⟩
    case round =>
      clear f4 f5 f6 f7 f9 f10 bW sW
      obtain ⟨n, hn, rfl, f9, f10, f4, f5, f6, f7, bW⟩ := hrel
      cases n with
      | zero =>
        go_wp2_with fail
        have d9 := word_cells f9
        have d10 := word_cells f10
        have fo := fold_wa
        go_region_with (first | (go_at_call 58; refine (H6.out _).mono ?_; rintro e w8 ⟨rfl, hb⟩; have g10 := word_cells (Below.stays hb f10); have g6 := Below.stays hb f6; have g7 := Below.stays hb f7; have k1 := store_old (m := qk 0) g6; have k2 := store_old (m := ro) (blk_row_other (b := w.heap.size + 1 + 1 + 1) (c' := wa (qk 0)) g7 (by omega)); clear g6 g7))
        all_goals
          have g6 := Below.stays hb f6
          have g7 := Below.stays hb f7
          have bX : Below w.heap.size w w8 := bW.drew.trans (hb.mono bW.size)
          have e6 := word_cells (blk_row_other (b := w.heap.size + 1 + 1 + 1 + 1) (c' := wa ro) (blk_row (c' := wa (qk 0)) g6) (by omega))
          have e7 := word_cells (blk_row (c' := wa ro) (blk_row_other (b := w.heap.size + 1 + 1 + 1) (c' := wa (qk 0)) g7 (by omega)))
          clear k1 k2 d9 d10 hb f4 f5 f6 f7 f9 f10 bW
          go_wp2_with fail
          refine bodyPost_ret (v := .tuple #[wd (qk 0), wd ro]) (by simp [results, Tryd.results73, go_sem, e6, e7, fo]) rfl ⟨rfl, below_setRow (below_setRow bX (by omega) _) (by omega) _⟩
      | succ j =>
        rw [show (((j + 1 : Nat) : Int) - 1) = (j : Int) by omega]
        have hj : j < 4 := by omega
        have c4 := blk_cell f4 (wa_lb L1 j hj)
        have d9 := word_cells f9
        have d5 := word_cells f5
        have fo := fold_wa
        go_wp2_with fail
        go_region_with (first | (go_at_call 85; refine (Hd.out j hj _).mono ?_; rintro e w8 ⟨rfl, hb⟩; have g10 := Below.stays hb f10; have g9 := Below.stays hb f9; have k1 := blk_cell g10 (wa_lb (qk (j + 1)) j hj); have k2 := blk_frozen (j := j) g10; have k3 := store_old (m := rk j) (blk_other (b := b10) (j := j) g9 (by omega) (.int .u64 ((dk j : Nat) : Int))); clear g10 g9))
        all_goals
          have g4 := Below.stays hb f4
          have g5 := Below.stays hb f5
          have g6 := Below.stays hb f6
          have g7 := Below.stays hb f7
          have g9 := Below.stays hb f9
          have g10 := Below.stays hb f10
          have bX : Below w.heap.size w w8 := bW.drew.trans (hb.mono bW.size)
          clear k1 k2 k3 c4 d9 d5 fo hb f4 f5 f6 f7 f9 f10 bW
          go_wp2_with fail
          refine ⟨⟨j, by omega, rfl, blk_row (blk_other (j := j) g9 (by omega) _), ?_, blk_row_other (blk_other (j := j) g4 (by omega) _) (by omega), blk_row_other (blk_other (j := j) g5 (by omega) _) (by omega), blk_row_other (blk_other (j := j) g6 (by omega) _) (by omega), blk_row_other (blk_other (j := j) g7 (by omega) _) (by omega), below_setRow (bX.setCell (by show _ ≤ b10; omega) _) (by omega) _⟩, by simp only [intOf]; omega⟩
          rw [← Hq.out j hj]
          exact blk_row_other (blk_set g10 _) (by omega)
    
end Go.Proofs.YtihefgpicnhdjaaDoor
/- What the function divide of package wide does, in numbers: a quotient, cut down, and what is left; 0 and 0, where the divisor is 0; all older memory is as it was. -/
namespace Go.Proofs.YtihefgpicnhdjaaDoor
open Go.RowKit SmWord
set_option maxRecDepth 100000

set_option maxHeartbeats 1000000 in
theorem divide_walk0 (a0 a1 a2 a3 b0 b1 b2 b3 : Int) (w : World) :
    Calls Tryd.prog 73 #[.agg #[.int .u64 a0, .int .u64 a1, .int .u64 a2, .int .u64 a3], .agg #[.int .u64 b0, .int .u64 b1, .int .u64 b2, .int .u64 b3], .agg #[.int .u64 0, .int .u64 0, .int .u64 0, .int .u64 0]] w fun e w' =>
      e = .returned (.tuple #[.agg #[.int .u64 0, .int .u64 0, .int .u64 0, .int .u64 0], .agg #[.int .u64 0, .int .u64 0, .int .u64 0, .int .u64 0]]) ∧ Below w.heap.size w w' := by
  have he : ∀ w : World, (Op.equalIn 10000 55 (.agg #[.int .u64 0, .int .u64 0, .int .u64 0, .int .u64 0]) (.agg #[.int .u64 0, .int .u64 0, .int .u64 0, .int .u64 0])).run Tryd.prog w = .ok true w := fun w => by
    have := equal_wa 0 0 w
    rw [decide_eq_true rfl] at this
    exact this
  have hg := Tryd.guardW
  go_enter Tryd.func73, Tryd.ntmps73
  go_wp2
  refine bodyPost_ret (v := .tuple #[.agg #[.int .u64 0, .int .u64 0, .int .u64 0, .int .u64 0], .agg #[.int .u64 0, .int .u64 0, .int .u64 0, .int .u64 0]]) (by simp [results, Tryd.results73, go_sem]) rfl ⟨rfl, ?_⟩
  repeat (first | exact Below.refl _ _ | refine Below.drew ?_ | refine Below.alloc ?_ (by simp; try omega) _ | refine Below.setCell ?_ (by simp; try omega) _)

theorem wa_setN (q d j : Nat) (hj : j < 4) (hd : d < B) : (wa (q * B ^ (j + 1))).setIfInBounds j (.int .u64 ((d : Nat) : Int)) = wa (q * B ^ (j + 1) + d * B ^ j) := by
  apply Array.ext_getElem?
  intro i
  by_cases hi : i < 4
  · rw [wa_lb _ i hi, lb_set q d j i hd]
    by_cases hij : i = j
    · subst hij
      rw [if_pos rfl, Array.getElem?_setIfInBounds_self_of_lt (by rw [wa_size]; exact hi)]
    · rw [if_neg hij, Array.getElem?_setIfInBounds_ne (Ne.symm hij), wa_lb _ i hi]
  · rw [Array.getElem?_eq_none (by rw [Array.size_setIfInBounds, wa_size]; omega), Array.getElem?_eq_none (by rw [wa_size]; omega)]

theorem divide_pos (H L m s : Nat) (hH : H < m) (hL : L < M) (hm : m < M) (hs : s ≤ 255) (hb : bl m = 256 - s) (h1 : m * 2 ^ s < M) (h2 : M ≤ 2 * (m * 2 ^ s)) (w : World) :
    Calls Tryd.prog 73 #[wd H, wd L, wd m] w fun e w' => e = .returned (.tuple #[wd ((H * M + L) / m), wd ((H * M + L) % m)]) ∧ Below w.heap.size w w' := by
  have hm0 : 0 < m := by omega
  have hB : s < B := by simp only [B]; omega
  have hp := Nat.two_pow_pos s
  have hm1 : 0 < m * 2 ^ s := Nat.mul_pos hm0 hp
  have hlow := dv_low hL (show s ≤ 256 by omega)
  have hR := dv_rest hH hlow
  have hL1 : L * 2 ^ s % M < M := Nat.mod_lt _ (by decide)
  have hj := dv_join (H := H) (L := L) (show s ≤ 256 by omega)
  obtain ⟨R, eR⟩ : ∃ R, H * 2 ^ s + L / 2 ^ (256 - s) = R := ⟨_, rfl⟩
  obtain ⟨L1, eL⟩ : ∃ L1, L * 2 ^ s % M = L1 := ⟨_, rfl⟩
  obtain ⟨m1, em⟩ : ∃ m1, m * 2 ^ s = m1 := ⟨_, rfl⟩
  rw [eR] at hR hj
  rw [eL] at hL1 hj
  rw [em] at h1 h2 hR hm1
  have x4 := xk_top (R := R) hL1
  have x0 := xk_zero R L1
  rw [hj] at x0
  have q0 : qk R L1 m1 0 = (H * M + L) / m := by
    unfold qk
    rw [x0, Nat.pow_zero, Nat.mul_one, ← em, Nat.mul_div_mul_right _ _ hp]
  have r0 : xk R L1 0 % m1 = (H * M + L) % m * 2 ^ s := by rw [x0, ← em, Nat.mul_mod_mul_right]
  have key := divide_walk H L m m1 (H * 2 ^ s) (L / 2 ^ (256 - s)) L1 s (fun j => xk R L1 j % m1) (qk R L1 m1) (fun j => (xk R L1 (j + 1) % m1 * B + lb L1 j) / m1) ((H * M + L) % m) w
    (Lib.hid fun w => by rw [equal_wa, Nat.mod_eq_of_lt hm, Nat.zero_mod, decide_eq_false (by omega)]) (Nat.zero_le _) hs
    (Lib.hid fun w => by
      have := len_wd m w
      rw [Nat.mod_eq_of_lt hm, hb, show (((256 - s : Nat)) : Int) = 256 - (s : Int) by omega] at this
      exact this)
    (Lib.hid fun w => by rw [← em]; exact shl_wd m s hB w)
    (Lib.hid fun w => shl_wd H s hB w)
    (Lib.hid fun w => by
      have := shr_wd L (256 - s) (by simp only [B]; omega) w
      rw [Nat.mod_eq_of_lt hL, show (((256 - s : Nat)) : Int) = 256 - (s : Int) by omega] at this
      exact this)
    (Lib.hid fun w => by
      have := or_wd (H * 2 ^ s) (L / 2 ^ (256 - s)) w
      rw [or_parts, or_apart hlow, eR, wd_congr (Nat.mod_mod R M)] at this
      show Calls Tryd.prog 54 _ w fun e w' => e = .returned (wd (xk R L1 4 % m1)) ∧ _
      rw [x4, Nat.mod_eq_of_lt hR]
      exact this)
    (Lib.hid fun w => by
      have := shl_wd L s hB w
      rw [← wd_congr (Nat.mod_mod (L * 2 ^ s) M), eL] at this
      exact this)
    (Lib.hid (by unfold qk; rw [x4, Nat.div_eq_of_lt hR, Nat.zero_mul]))
    (Lib.hid fun j hj w => by
      show Calls Tryd.prog 85 _ w fun e w' => e = .returned (.tuple #[_, wd (xk R L1 j % m1)]) ∧ _
      rw [(xk_div R L1 j m1 hj hm1).2]
      exact digit_wd (xk R L1 (j + 1) % m1) (lb L1 j) m1 (Nat.mod_lt _ hm1) (lb_lt _ _) h1 h2 w)
    (Lib.hid fun j hj => by
      rw [qk_step R L1 j m1 hj hm1]
      unfold qk
      refine wa_setN _ _ j hj ?_
      rw [Nat.div_lt_iff_lt_mul hm1]
      have t1 := Nat.mod_lt (xk R L1 (j + 1)) hm1
      have t2 := lb_lt L1 j
      have t3 : (xk R L1 (j + 1) % m1 + 1) * B ≤ m1 * B := Nat.mul_le_mul_right _ t1
      rw [Nat.add_mul] at t3
      rw [Nat.mul_comm B m1]
      omega)
    (Lib.hid fun w => by
      have := shr_wd (xk R L1 0 % m1) s hB w
      have t1 := Nat.mod_lt (xk R L1 0) hm1
      rw [Nat.mod_eq_of_lt (show xk R L1 0 % m1 < M by omega)] at this
      show Calls Tryd.prog 58 #[wd (xk R L1 0 % m1), _] w _
      rw [r0, Nat.mul_div_cancel _ hp] at this
      rw [r0]
      exact this)
  rw [q0] at key
  exact key

theorem divide_wd (h l m : Nat) (hh : h % M < m % M ∨ m % M = 0) (w : World) :
    Calls Tryd.prog 73 #[wd h, wd l, wd m] w fun e w' => e = .returned (.tuple #[wd ((h % M * M + l % M) / (m % M)), wd (rs (h % M * M + l % M) (m % M))]) ∧ Below w.heap.size w w' := by
  by_cases hm : m % M = 0
  · rw [hm, Nat.div_zero, rs_zero, wd_congr (show m % M = 0 % M by rw [hm, Nat.zero_mod])]
    exact divide_walk0 _ _ _ _ _ _ _ _ w
  · have hlt : m % M < M := Nat.mod_lt _ (by decide)
    obtain ⟨s, hs, hb, h1, h2⟩ := dv_shift hlt hm
    have := divide_pos (h % M) (l % M) (m % M) s (by omega) (Nat.mod_lt _ (by decide)) hlt hs hb h1 h2 w
    rw [rs_pos hm]
    rw [wd_congr (Nat.mod_mod h M), wd_congr (Nat.mod_mod l M), wd_congr (Nat.mod_mod m M)] at this
    exact this
end Go.Proofs.YtihefgpicnhdjaaDoor
/- What the functions Div, left, AddMod, MulMod and Product of package wide do, in numbers; all older memory is as it was. -/
namespace Go.Proofs.YtihefgpicnhdjaaDoor
open Go.RowKit SmWord
set_option maxRecDepth 100000

theorem setRow_alloc {w : World} {g : Nat} (h : g < w.heap.size) (c : Array Value) (o : Obj) : (w.alloc o).setRow g c = (w.setRow g c).alloc o := by
  unfold World.setRow World.alloc
  simp only [World.mk.injEq, and_true]
  apply Array.ext_getElem?
  intro i
  simp only [Array.getElem?_modify, Array.getElem?_push, Array.size_modify]
  by_cases hi : i = w.heap.size
  · subst hi
    rw [if_neg (by omega), if_pos rfl, if_pos rfl]
  · by_cases hg : g = i
    · subst hg
      simp [hi]
    · simp [hi, hg]
/-- Two new variables, filled one behind the other. -/
theorem store_pair1 (w : World) (a : Nat) : (storeCells ⟨w.heap.size, 0, none⟩ (wa a).toList 0).run Tryd.prog ((w.alloc (.cells (wa 0) 55)).alloc (.cells (wa 0) 55)) = .ok () ((w.alloc (.cells (wa a) 55)).alloc (.cells (wa 0) 55)) := by
  rw [store_old (n := 0) (blk_alloc (blk_new _ rfl)), setRow_alloc (by simp), World.setRow_alloc_new]
theorem store_pair2 (w : World) (a b : Nat) : (storeCells ⟨w.heap.size + 1, 0, none⟩ (wa b).toList 0).run Tryd.prog ((w.alloc (.cells (wa a) 55)).alloc (.cells (wa 0) 55)) = .ok () ((w.alloc (.cells (wa a) 55)).alloc (.cells (wa b) 55)) := by
  have := store_new0 (w.alloc (.cells (wa a) 55)) b
  rw [World.size_alloc] at this
  exact this

set_option maxHeartbeats 1000000 in
theorem div_walk (a b q r : Nat) (w : World) (H : Hid (∀ w : World, Calls Tryd.prog 73 #[wd 0, wd a, wd b] w fun e w' => e = .returned (.tuple #[wd q, wd r]) ∧ Below w.heap.size w w')) :
    Calls Tryd.prog 60 #[wd a, wd b] w fun e w' => e = .returned (.tuple #[wd q, wd r]) ∧ Below w.heap.size w w' := by
  have hz := z4_wa
  have hsz := wa_size
  go_enter Tryd.func60, Tryd.ntmps60
  go_upto_region 1 with fail
  have f2 : ((((w.alloc (.cells (wa a) 55)).alloc (.cells (wa b) 55)).alloc (.cells (wa 0) 55)).alloc (.cells (wa 0) 55)).heap[w.heap.size]? = some (.cells (wa a) 55) := blk_alloc (blk_alloc (blk_alloc (blk_new _ rfl)))
  have f3 : ((((w.alloc (.cells (wa a) 55)).alloc (.cells (wa b) 55)).alloc (.cells (wa 0) 55)).alloc (.cells (wa 0) 55)).heap[w.heap.size + 1]? = some (.cells (wa b) 55) := blk_alloc (blk_alloc (blk_new _ (by simp)))
  have f4 : ((((w.alloc (.cells (wa a) 55)).alloc (.cells (wa b) 55)).alloc (.cells (wa 0) 55)).alloc (.cells (wa 0) 55)).heap[w.heap.size + 1 + 1]? = some (.cells (wa 0) 55) := blk_alloc (blk_new _ (by simp))
  have f5 : ((((w.alloc (.cells (wa a) 55)).alloc (.cells (wa b) 55)).alloc (.cells (wa 0) 55)).alloc (.cells (wa 0) 55)).heap[w.heap.size + 1 + 1 + 1]? = some (.cells (wa 0) 55) := blk_new _ (by simp)
  have bW : Below w.heap.size w ((((w.alloc (.cells (wa a) 55)).alloc (.cells (wa b) 55)).alloc (.cells (wa 0) 55)).alloc (.cells (wa 0) 55)) := (((((Below.refl _ _).alloc (Nat.le_refl _) _).alloc (by simp <;> omega) _).alloc (by simp <;> omega) _).alloc (by simp <;> omega) _)
  have sW : w.heap.size + 4 ≤ ((((w.alloc (.cells (wa a) 55)).alloc (.cells (wa b) 55)).alloc (.cells (wa 0) 55)).alloc (.cells (wa 0) 55)).heap.size := by simp
  generalize ((((w.alloc (.cells (wa a) 55)).alloc (.cells (wa b) 55)).alloc (.cells (wa 0) 55)).alloc (.cells (wa 0) 55)) = W at *
  go_wp2_with (refine wpList_load_row rfl 55 _ rfl _ rfl 55 _ (0, 0) _ (by assumption) Tryd.underlying55 rfl Tryd.infoWa ?_)
  refine (H.out _).mono ?_
  rintro e w1 ⟨rfl, b1⟩
  replace f2 := Below.stays b1 f2
  replace f3 := Below.stays b1 f3
  replace f4 := Below.stays b1 f4
  replace f5 := Below.stays b1 f5
  replace bW := bW.trans (b1.mono bW.size)
  replace sW := Nat.le_trans sW b1.size
  clear b1
  go_wp2_with (first | (refine wpList_store_row rfl 55 (.tmp 4) _ rfl _ _ (wa q) rfl rfl f4 Tryd.infoWa rfl wa_one ?_) | (refine wpList_store_row rfl 55 (.tmp 5) _ rfl _ _ (wa r) rfl rfl (blk_row_other f5 (by omega)) Tryd.infoWa rfl wa_one ?_))
  have e4 := word_cells (blk_row_other (b := w.heap.size + 1 + 1 + 1) (c' := wa r) (blk_row (c' := wa q) f4) (by omega))
  have e5 := word_cells (blk_row (c' := wa r) (blk_row_other (b := w.heap.size + 1 + 1) (c' := wa q) f5 (by omega)))
  exact bodyPost_ret (v := .tuple #[wd q, wd r]) (by simp [results, Tryd.results60, go_sem, e4, e5, fold_wa]) rfl ⟨rfl, below_setRow (below_setRow bW (by omega) _) (by omega) _⟩
theorem div_wd (a b : Nat) (w : World) : Calls Tryd.prog 60 #[wd a, wd b] w fun e w' => e = .returned (.tuple #[wd (a % M / (b % M)), wd (rs (a % M) (b % M))]) ∧ Below w.heap.size w w' :=
  div_walk a b _ _ w (Lib.hid fun w => by
    have := divide_wd 0 a b (by rw [Nat.zero_mod]; omega) w
    rw [Nat.zero_mod, Nat.zero_mul, Nat.zero_add] at this
    exact this)

theorem rs_lt {x m : Nat} (hm : m < M) : rs x m < M := by
  unfold rs
  split
  · decide
  · have := Nat.mod_lt x (show 0 < m by omega); omega
end Go.Proofs.YtihefgpicnhdjaaDoor
