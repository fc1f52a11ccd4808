/- What the function digit of package wide does: a part of a quotient, and what is left; all older memory is as it was. -/
import Derived.Test.YtdpbjdecbilaeaaG2
import Derived.Test.YtdpbjdecbilaeaaG3
import Derived.Deep.CutBlock
import Derived.Deep.DeepCutAuto
import Derived.Test.YtdpbjdecbilaeaaG1
import Derived.Deep.RegionWith
namespace Go.Proofs.Ytdpbjdecbilaeaa
open Go.RowKit SmWord
set_option maxRecDepth 100000

theorem blk_new {w : World} {n : Nat} (o : Obj) (h : n = w.heap.size) : (w.alloc o).heap[n]? = some o := by subst h; exact heap_alloc_new _ _
theorem store_new0 (w : World) (m : Nat) : (storeCells ⟨w.heap.size, 0, none⟩ (wa m).toList 0).run Try.prog (w.alloc (.cells (wa 0) 24)) = .ok () (w.alloc (.cells (wa m) 24)) := store_new w m
theorem cmp_lt (m n : Nat) (h : m % M < n % M) (w : World) : Calls Try.prog 48 #[wd m, wd n] w fun e w' => e = .returned (.int .i64 (-1)) ∧ Below w.heap.size w w' := by
  have := compare_wd m n w
  unfold cmpN at this
  rw [if_pos h] at this
  exact this
theorem cmp_ge (m n : Nat) (h : ¬ m % M < n % M) : ∃ z : Int, 0 ≤ z ∧ ∀ w : World, Calls Try.prog 48 #[wd m, wd n] w fun e w' => e = .returned (.int .i64 z) ∧ Below w.heap.size w w' := by
  refine ⟨cmpN (m % M) (n % M), ?_, fun w => compare_wd m n w⟩
  unfold cmpN
  rw [if_neg h]
  split <;> omega
theorem word_cells {w : World} {b m : Nat} {t : TypeId} (hb : w.heap[b]? = some (.cells (wa m) t)) :
    w.cell? ⟨b, 0, none⟩ = some (.int .u64 ((l0 m : Nat) : Int)) ∧ w.cell? ⟨b, 1, none⟩ = some (.int .u64 ((l1 m : Nat) : Int)) ∧
    w.cell? ⟨b, 2, none⟩ = some (.int .u64 ((l2 m : Nat) : Int)) ∧ w.cell? ⟨b, 3, none⟩ = some (.int .u64 ((l3 m : Nat) : Int)) :=
  ⟨blk_cell hb rfl, blk_cell hb rfl, blk_cell hb rfl, blk_cell hb rfl⟩
theorem z4_wa : #[Value.int .u64 0, .int .u64 0, .int .u64 0, .int .u64 0] = wa 0 := rfl

set_option maxHeartbeats 2000000 in
theorem digit_walk (R m L P D g ov u0 u1 q r d0 : Nat) (x : Int) (c : Int) (w : World)
   (Hg : Hid (∀ w : World, Calls Try.prog 80 #[wd R, wd m] w fun e w' => e = .returned (.int .u64 (g : Int)) ∧ Below w.heap.size w w'))
   (Ha : Hid (∀ w : World, Calls Try.prog 79 #[wd 0, wd m, .int .u64 (g : Int)] w fun e w' => e = .returned (.tuple #[wd P, .int .u64 (ov : Int)]) ∧ Below w.heap.size w w'))
   (fl : Hid (((((wa 0).setIfInBounds 0 (Value.int .u64 x)).setIfInBounds 1 (.int .u64 ((l0 R : Nat) : Int))).setIfInBounds 2 (.int .u64 ((l1 R : Nat) : Int))).setIfInBounds 3 (.int .u64 ((l2 R : Nat) : Int)) = wa L))
   (Hc : Hid (∀ w : World, Calls Try.prog 48 #[wd L, wd P] w fun e w' => e = .returned (.int .i64 c) ∧ Below w.heap.size w w'))
   (Hs : Hid (∀ w : World, Calls Try.prog 42 #[wd L, wd P] w fun e w' => e = .returned (wd D) ∧ Below w.heap.size w w'))
   (hu0 : Hid (IntKind.u64.wrap (((l3 R : Nat) : Int) - (ov : Int)) = (u0 : Int)))
   (hu1 : Hid (c < 0 → IntKind.u64.wrap ((u0 : Int) - 1) = (u1 : Int))) (hu1' : Hid (0 ≤ c → u0 = u1))
   (hg0 : Hid (g = q + d0)) (hgB : g < B) (hd0 : d0 ≤ 2) (hov : Hid (Over r m d0 u1 D)) (hrm : Hid (r < m)) (hrM : Hid (r < M)) (hmM : Hid (m < M)) :
    Calls Try.prog 76 #[wd R, .int .u64 x, wd m] w fun e w' => e = .returned (.tuple #[.int .u64 (q : Int), wd r]) ∧ Below w.heap.size w w' := by
  have hz := z4_wa
  have hs := store_new0
  have hsz := wa_size
  go_enter Try.func76, Try.ntmps76
  go_upto_region 1 with fail
  have f3 : (((w.alloc (.cells (wa R) 24)).alloc (.cells (wa m) 24)).alloc (.cells (wa 0) 24)).heap[w.heap.size]? = some (.cells (wa R) 24) := blk_alloc (blk_alloc (blk_new _ rfl))
  have f5 : (((w.alloc (.cells (wa R) 24)).alloc (.cells (wa m) 24)).alloc (.cells (wa 0) 24)).heap[w.heap.size + 1]? = some (.cells (wa m) 24) := blk_alloc (blk_new _ (by simp))
  have f7 : (((w.alloc (.cells (wa R) 24)).alloc (.cells (wa m) 24)).alloc (.cells (wa 0) 24)).heap[w.heap.size + 1 + 1]? = some (.cells (wa 0) 24) := blk_new _ (by simp)
  have bW : Below w.heap.size w (((w.alloc (.cells (wa R) 24)).alloc (.cells (wa m) 24)).alloc (.cells (wa 0) 24)) := ((((Below.refl _ _).alloc (Nat.le_refl _) _).alloc (by simp <;> omega) _).alloc (by simp <;> omega) _)
  have sW : w.heap.size + 3 ≤ (((w.alloc (.cells (wa R) 24)).alloc (.cells (wa m) 24)).alloc (.cells (wa 0) 24)).heap.size := by simp
  generalize (((w.alloc (.cells (wa R) 24)).alloc (.cells (wa m) 24)).alloc (.cells (wa 0) 24)) = W at *
  go_wp2_with (refine wpList_load_row rfl 24 _ rfl _ rfl 24 _ (0, 0) _ (by assumption) Try.underlying24 rfl Try.infoWa ?_)
  refine (Hg.out _).mono ?_
  rintro e w1 ⟨rfl, b1⟩
  replace f3 := Below.stays b1 f3
  replace f5 := Below.stays b1 f5
  replace f7 := Below.stays b1 f7
  replace bW := bW.trans (b1.mono bW.size)
  replace sW := Nat.le_trans sW b1.size
  clear b1
  go_wp2_with (refine wpList_load_row rfl 24 _ rfl _ rfl 24 _ (0, 0) _ (by assumption) Try.underlying24 rfl Try.infoWa ?_)
  refine (Ha.out _).mono ?_
  rintro e w2 ⟨rfl, b1⟩
  replace f3 := Below.stays b1 f3
  replace f5 := Below.stays b1 f5
  replace f7 := Below.stays b1 f7
  replace bW := bW.trans (b1.mono bW.size)
  replace sW := Nat.le_trans sW b1.size
  clear b1
  go_upto_region 3 with fail
  replace f3 := blk_alloc (o' := .cells (wa P) 24) f3
  replace f5 := blk_alloc (o' := .cells (wa P) 24) f5
  replace f7 := blk_alloc (o' := .cells (wa P) 24) f7
  have f9 : (w2.alloc (.cells (wa P) 24)).heap[w2.heap.size]? = some (.cells (wa P) 24) := heap_alloc_new _ _
  replace bW : Below w.heap.size w (w2.alloc (.cells (wa P) 24)) := bW.alloc (by omega) _
  have sb9 : w2.heap.size + 1 ≤ (w2.alloc (.cells (wa P) 24)).heap.size := by simp
  generalize (w2.alloc (.cells (wa P) 24)) = w3 at *
  generalize w2.heap.size = b9 at *
  have lb9 := sW
  replace sW := Nat.le_trans (Nat.le_succ_of_le sW) sb9
  have c0 := blk_cell (j := 0) f3 (show (wa R)[0]? = some (.int .u64 ((l0 R : Nat) : Int)) from rfl)
  have c1 := blk_cell (j := 1) f3 (show (wa R)[1]? = some (.int .u64 ((l1 R : Nat) : Int)) from rfl)
  have c2 := blk_cell (j := 2) f3 (show (wa R)[2]? = some (.int .u64 ((l2 R : Nat) : Int)) from rfl)
  have fo := fl.out
  go_upto_region 4 with fail
  clear c0 c1 c2 fo hz
  replace f3 := blk_alloc (o' := .cells (wa L) 24) f3
  replace f5 := blk_alloc (o' := .cells (wa L) 24) f5
  replace f7 := blk_alloc (o' := .cells (wa L) 24) f7
  replace f9 := blk_alloc (o' := .cells (wa L) 24) f9
  have f11 : (w3.alloc (.cells (wa L) 24)).heap[w3.heap.size]? = some (.cells (wa L) 24) := heap_alloc_new _ _
  replace bW : Below w.heap.size w (w3.alloc (.cells (wa L) 24)) := bW.alloc (by omega) _
  have sb11 : w3.heap.size + 1 ≤ (w3.alloc (.cells (wa L) 24)).heap.size := by simp
  generalize (w3.alloc (.cells (wa L) 24)) = w4 at *
  generalize w3.heap.size = b11 at *
  have lb11 := sW
  replace sW := Nat.le_trans (Nat.le_succ_of_le sW) sb11
  have c3 := blk_cell (j := 3) f3 (show (wa R)[3]? = some (.int .u64 ((l3 R : Nat) : Int)) from rfl)
  have hu := hu0.out
  go_upto_region 5 with fail
  clear c3 hu
  go_wp2_with (refine wpList_load_row rfl 24 _ rfl _ rfl 24 _ (0, 0) _ (by assumption) Try.underlying24 rfl Try.infoWa ?_)
  refine (Hc.out _).mono ?_
  rintro e w5 ⟨rfl, b1⟩
  replace f3 := Below.stays b1 f3
  replace f5 := Below.stays b1 f5
  replace f7 := Below.stays b1 f7
  replace f9 := Below.stays b1 f9
  replace f11 := Below.stays b1 f11
  replace bW := bW.trans (b1.mono bW.size)
  replace sW := Nat.le_trans sW b1.size
  clear b1
  go_upto_if 38 with fail
  go_cut [12] (fun s12 wx => s12 = .int .u64 (u1 : Int) ∧ w5 = wx)
  case first =>
    by_cases hc : c < 0
    · have hu := hu1.out hc
      go_wp2_with fail
      go_meet
      exact ⟨rfl, rfl⟩
    · obtain rfl := hu1'.out (by omega)
      go_wp2_with fail
      go_meet
      exact ⟨rfl, rfl⟩
  case rest =>
    obtain ⟨rfl, rfl⟩ := hcut
    clear hs hsz
    go_wp2_with (refine wpList_load_row rfl 24 _ rfl _ rfl 24 _ (0, 0) _ (by assumption) Try.underlying24 rfl Try.infoWa ?_)
    refine (Hs.out _).mono ?_
    rintro e w6 ⟨rfl, b1⟩
    replace f3 := Below.stays b1 f3
    replace f5 := Below.stays b1 f5
    replace f7 := Below.stays b1 f7
    replace f9 := Below.stays b1 f9
    replace f11 := Below.stays b1 f11
    replace bW := bW.trans (b1.mono bW.size)
    replace sW := Nat.le_trans sW b1.size
    clear b1
    go_upto_block 0 with (refine wpList_store_row rfl 24 _ _ rfl _ _ (wa D) rfl rfl f11 Try.infoWa rfl wa_one ?_)
    simp only [Act.put]
    replace f3 := blk_row_other (b := b11) (c' := wa D) f3 (by omega)
    replace f5 := blk_row_other (b := b11) (c' := wa D) f5 (by omega)
    replace f7 := blk_row_other (b := b11) (c' := wa D) f7 (by omega)
    replace f9 := blk_row_other (b := b11) (c' := wa D) f9 (by omega)
    replace f11 := blk_row (c' := wa D) f11
    replace bW : Below w.heap.size w (w6.setRow (b11) (wa D)) := below_setRow bW (by omega) _
    replace sW := Nat.le_trans sW (Nat.le_of_eq (setRow_size w6 (b11) (wa D)).symm)
    generalize (w6.setRow (b11) (wa D)) = w7 at *
    go_wp2_with fail
    go_loopw [8, 12] (fun s8 s12 wr => ∃ d u l : Nat, s8 = .int .u64 ((q + d : Nat) : Int) ∧ s12 = .int .u64 (u : Int) ∧ d ≤ 2 ∧ q + d ≤ g ∧ u < B ∧ Hid (Over r m d u l) ∧ wr.heap[b11]? = some (.cells (wa l) 24) ∧ wr.heap[w.heap.size + 1]? = some (.cells (wa m) 24) ∧ wr.heap[w.heap.size + 1 + 1]? = some (.cells (wa 0) 24) ∧ Below w.heap.size w wr) (fun s8 _ _ => (intOf s8).toNat)
    case atStart => exact ⟨d0, u1, D, by rw [hg0.out], rfl, hd0, by rw [hg0.out]; exact Nat.le_refl _, hov.out.2.1, hov, f11, f5, f7, bW⟩
    case round =>
      clear f11 f5 f7 bW f3 f9 sW hov
      obtain ⟨d, u, l, rfl, rfl, hd, hqd, hub, ho, f11, f5, f7, bW⟩ := hrel
      simp only [B] at hub hgB
      by_cases hdz : d = 0
      · obtain ⟨hu0, hl⟩ := over_zero hrM.out (hdz ▸ ho.out)
        subst hu0 hdz
        have HL := Lib.hid hl
        clear hl
        obtain rfl : l = r := HL.out
        go_wp2_with fail
        refine region_last (aQ := ?aQ) 3 (by kernel_rfl) (by kernel_rfl) (fun w1 => ?hq) (fun w' hb => ?hh)
        case hq =>
          simp only [List.take_succ_cons, List.take_zero]
          repeat (first | (go_big_quiet_want; refine quiet_load_row 24 _ rfl _ (wa l) rfl (fun w2 hw2 => by obtain ⟨g, rfl⟩ := hw2; exact g.block (w1.block f11)) Try.underlying24 Try.infoWa ?_; simp only [Act.put, List.setIfInBounds_toArray, List.set_cons_succ, List.set_cons_zero]; go_big_quiet_on) | go_big_quiet_step (fail))
          refine wpQuiet_nil ?_
          rfl
        case hh =>
          replace f7 := Ext.block ⟨w', hb⟩ f7
          replace bW := bW.trans (hb.mono bW.size)
          simp only [List.drop_succ_cons, List.drop_zero]
          refine wpList_store_row rfl 24 _ _ rfl _ _ (wa l) rfl rfl f7 Try.infoWa rfl wa_one ?_
          refine wpList_nil ?_
          go_wp2_with fail
          have c0 := word_cells (blk_row (c' := wa l) f7)
          refine bodyPost_ret (v := .tuple #[.int .u64 (q : Int), wd l]) (by simp [results, Try.results76, go_sem, c0, fold_wa]) rfl ⟨rfl, below_setRow bW (by omega) _⟩
      · obtain ⟨d', rfl⟩ : ∃ d', d = d' + 1 := ⟨d - 1, by omega⟩
        have hup := over_pos hrm.out hmM.out hd hdz ho.out
        have hst := over_step hmM.out ho.out
        have cu : (((u : Nat) : Int) != 0) = true := by rw [bne_iff_ne]; omega
        have HO := Lib.hid hst
        clear hst hdz ho hup
        go_wp2_with (refine wpList_load_row rfl 24 _ rfl _ rfl 24 _ (0, 0) _ (by assumption) Try.underlying24 rfl Try.infoWa ?_)
        refine (add_wd l m _).mono ?_
        rintro e w8 ⟨rfl, b1⟩
        replace f11 := Below.stays b1 f11
        replace f5 := Below.stays b1 f5
        replace f7 := Below.stays b1 f7
        replace bW := bW.trans (b1.mono bW.size)
        clear b1
        go_upto_region 11 with (refine wpList_store_row rfl 24 _ _ rfl _ _ (wa (l + m)) rfl rfl f11 Try.infoWa rfl wa_one ?_)
        simp only [Act.put]
        replace f5 := blk_row_other (b := b11) (c' := wa (l + m)) f5 (by omega)
        replace f7 := blk_row_other (b := b11) (c' := wa (l + m)) f7 (by omega)
        replace f11 := blk_row (c' := wa (l + m)) f11
        replace bW : Below w.heap.size w (w8.setRow b11 (wa (l + m))) := below_setRow bW (by omega) _
        generalize w8.setRow b11 (wa (l + m)) = w9 at *
        go_wp2_with (refine wpList_load_row rfl 24 _ rfl _ rfl 24 _ (0, 0) _ (by assumption) Try.underlying24 rfl Try.infoWa ?_)
        by_cases hcar : (l + m) % M < m % M
        · refine (cmp_lt (l + m) m hcar _).mono ?_
          rintro e w8 ⟨rfl, b1⟩
          go_wp2_with fail
          refine ⟨⟨d', (u + 1) % B, (l + m) % M, congrArg (Value.int .u64) (by omega), congrArg (Value.int .u64) (by rw [IntKind.wrap_u64]; simp only [B]; omega), by omega, by omega, by simp only [B]; omega, ?_, ?_, Below.stays b1 f5, Below.stays b1 f7, bW.trans (b1.mono bW.size)⟩, by simp only [intOf]; omega⟩
          · have := HO.out
            rw [if_pos (by rw [Nat.mod_eq_of_lt hmM.out] at hcar; exact hcar)] at this
            exact Lib.hid this
          · rw [wa_congr (show (l + m) % M % M = (l + m) % M from Nat.mod_mod _ _)]
            exact Below.stays b1 f11
        · obtain ⟨z, hz0, Hz⟩ := cmp_ge (l + m) m hcar
          have HZ := Lib.hid Hz
          clear Hz
          refine (HZ.out _).mono ?_
          rintro e w8 ⟨rfl, b1⟩
          go_wp2_with fail
          refine ⟨⟨d', u, (l + m) % M, congrArg (Value.int .u64) (by omega), congrArg (Value.int .u64) (rfl), by omega, by omega, by simp only [B]; omega, ?_, ?_, Below.stays b1 f5, Below.stays b1 f7, bW.trans (b1.mono bW.size)⟩, by simp only [intOf]; omega⟩
          · have := HO.out
            rw [if_neg (by rw [Nat.mod_eq_of_lt hmM.out] at hcar; exact hcar), Nat.add_zero, Nat.mod_eq_of_lt (by simp only [B]; exact hub)] at this
            exact Lib.hid this
          · rw [wa_congr (show (l + m) % M % M = (l + m) % M from Nat.mod_mod _ _)]
            exact Below.stays b1 f11
end Go.Proofs.Ytdpbjdecbilaeaa
/- What the function digit of package wide does, in numbers: a part of a quotient, and what is left; all older memory is as it was. -/
namespace Go.Proofs.Ytdpbjdecbilaeaa
open Go.RowKit SmWord
set_option maxRecDepth 100000

theorem top_part {m : Nat} (hm : m < M) (ht : M ≤ 2 * m) : 9223372036854775808 ≤ l3 m := by
  have em : num (l0 m) (l1 m) (l2 m) (l3 m) = m := by rw [num_parts, Nat.mod_eq_of_lt hm]
  obtain ⟨A0, A1, A2, A3⟩ := l_lt m
  have hM : M = B * (B * (B * B)) := by decide
  unfold num at em
  rw [hM] at ht
  simp only [B] at *
  omega
theorem up_wa (R x : Nat) (hx : x < B) :
    ((((wa 0).setIfInBounds 0 (Value.int .u64 (x : Int))).setIfInBounds 1 (.int .u64 ((l0 R : Nat) : Int))).setIfInBounds 2 (.int .u64 ((l1 R : Nat) : Int))).setIfInBounds 3 (.int .u64 ((l2 R : Nat) : Int)) = wa (R * B + x) := by
  obtain ⟨A0, A1, A2, A3⟩ := l_lt R
  have e : (num x (l0 R) (l1 R) (l2 R)) % M = (R * B + x) % M := by
    have hM : M = B * (B * (B * B)) := by decide
    have er := num_parts R
    have e2 : num (l0 R) (l1 R) (l2 R) (l3 R) * B + x = num x (l0 R) (l1 R) (l2 R) + M * l3 R := by
      rw [hM]; unfold num; simp only [B]; omega
    have e3 : (R * B + x) % M = (R % M * B + x) % M := by
      rw [← Nat.mod_add_mod, ← Nat.mod_mul_mod, Nat.mod_add_mod]
    rw [e3, ← er, e2, Nat.add_mul_mod_self_left]
  have h := wd_num hx A0 A1 A2
  rw [wd_congr e] at h
  exact (Value.agg.inj h).symm

theorem dg_u0 {a ov : Nat} (_h3 : a < B) (_hP : ov < B) : IntKind.u64.wrap ((a : Int) - (ov : Int)) = (((a + B - ov) % B : Nat) : Int) := by
  rw [IntKind.wrap_u64]; simp only [B] at *; omega
theorem dg_u1 {a ov : Nat} (_h3 : a < B) (_hP : ov < B) : IntKind.u64.wrap ((((a + B - ov) % B : Nat) : Int) - 1) = (((a + B - ov + (B - 1)) % B : Nat) : Int) := by
  rw [IntKind.wrap_u64]; simp only [B] at *; omega

theorem digit_wd (R x m : Nat) (hR : R < m) (hx : x < B) (hm : m < M) (ht : M ≤ 2 * m) (w : World) :
    Calls Try.prog 76 #[wd R, .int .u64 (x : Int), wd m] w fun e w' => e = .returned (.tuple #[.int .u64 (((R * B + x) / m : Nat) : Int), wd ((R * B + x) % m)]) ∧ Below w.heap.size w w' := by
  have hg := gs_lt R m
  obtain ⟨n1, n2⟩ := gs_near hR hx hm ht
  have hst := over_start hR hx hm hg rfl (d := gs R m - (R * B + x) / m) (by omega)
  have hM0 : 0 < M := by decide
  have hP : gs R m * m / M < B := by
    rw [Nat.div_lt_iff_lt_mul hM0]
    have h1 : gs R m * m ≤ gs R m * M := Nat.mul_le_mul_left _ (by omega)
    have h2 : (gs R m + 1) * M ≤ B * M := Nat.mul_le_mul_right _ hg
    rw [Nat.add_mul] at h2; omega
  have h3 := (l_lt R).2.2.2
  have hD : ((((R * B + x) % M + M - gs R m * m % M) % M) + gs R m * m) % M = (R * B + x) % M := by
    have t1 := Nat.mod_lt (R * B + x) hM0
    have t2 := Nat.mod_lt (gs R m * m) hM0
    rw [Nat.mod_add_mod, ← Nat.add_mod_mod, show (R * B + x) % M + M - gs R m * m % M + gs R m * m % M = (R * B + x) % M + M by omega, Nat.add_mod_right, Nat.mod_mod]
  have hr := Nat.mod_lt (R * B + x) (show 0 < m by omega)
  have hgs : ∀ w : World, Calls Try.prog 79 #[wd 0, wd m, .int .u64 ((gs R m : Nat) : Int)] w fun e w' => e = .returned (.tuple #[wd (gs R m * m), .int .u64 ((gs R m * m / M : Nat) : Int)]) ∧ Below w.heap.size w w' := fun w => by
    have := addTimes_wd 0 m (gs R m) hg w
    rw [show 0 % M + m % M * gs R m = gs R m * m by rw [Nat.mod_eq_of_lt hm, Nat.zero_mod, Nat.zero_add, Nat.mul_comm]] at this
    exact this
  refine digit_walk R m (R * B + x) (gs R m * m) _ (gs R m) (gs R m * m / M) ((l3 R + B - gs R m * m / M) % B) _ ((R * B + x) / m) ((R * B + x) % m) (gs R m - (R * B + x) / m) x (cmpN ((R * B + x) % M) (gs R m * m % M)) w
    (Lib.hid fun w => guess_wd R m (top_part hm ht) w) (Lib.hid hgs) (Lib.hid (up_wa R x hx)) (Lib.hid fun w => compare_wd _ _ w) (Lib.hid fun w => sub_wd _ _ _ w hD)
    (Lib.hid ?_) (Lib.hid fun hc => ?_) (Lib.hid fun hc => ?_) (Lib.hid (by omega)) hg (by omega) (Lib.hid hst) (Lib.hid hr) (Lib.hid (by omega)) (Lib.hid hm)
  · exact dg_u0 h3 hP
  · have : (R * B + x) % M < gs R m * m % M := by
      unfold cmpN at hc; split at hc
      · assumption
      · split at hc <;> omega
    rw [if_pos this]
    exact dg_u1 h3 hP
  · have : ¬ (R * B + x) % M < gs R m * m % M := by
      unfold cmpN at hc; split at hc
      · omega
      · assumption
    rw [if_neg this, Nat.add_zero]
end Go.Proofs.Ytdpbjdecbilaeaa
/- What the functions Bit, Byte, Small, Len and Size of package word do, for every word: a bit, a byte, whether it is small, how many bits and bytes it has; all older memory is as it was. -/
namespace Go.Proofs.Ytdpbjdecbilaeaa
open Go.RowKit SmWord
set_option maxRecDepth 100000

theorem lb_bit (m n : Nat) : lb m (n / 64) / 2 ^ (n % 64) % 2 = bitN m n := by
  unfold lb bitN
  have h8 : n % 64 < 64 := Nat.mod_lt _ (by decide)
  have hB : B = 2 ^ 64 := rfl
  have e2 : B = 2 ^ (n % 64) * 2 ^ (64 - n % 64) := by rw [← Nat.pow_add, hB]; congr 1; omega
  have e3 : (2 : Nat) ^ (64 - n % 64) = 2 * 2 ^ (63 - n % 64) := by rw [← Nat.pow_succ']; congr 1; omega
  have e4 : B ^ (n / 64) * 2 ^ (n % 64) = 2 ^ n := by rw [hB, ← Nat.pow_mul, ← Nat.pow_add]; congr 1; omega
  conv => lhs; arg 1; arg 1; arg 2; rw [e2]
  rw [Nat.mod_mul_right_div_self, e3, Nat.mod_mul_right_mod, Nat.div_div_eq_div_mul, e4]
theorem lb_lt (m i : Nat) : lb m i < B := Nat.mod_lt _ (by decide)

set_option maxHeartbeats 1000000 in
theorem wbit_high (m : Nat) (n : Int) (w : World) (h : 256 ≤ n) : Calls Try.prog 71 #[wd m, .int .u64 n] w fun e w' => e = .returned (.bool false) ∧ Below w.heap.size w w' := by
  have hz := wa_size
  have h0 : ¬ n < 256 := by omega
  have h1 : decide (n < 256) = false := by simp; omega
  go_enter Try.func71, Try.ntmps71
  go_wp2
  go_ret
  exact ⟨rfl, (Below.refl _ _).alloc (Nat.le_refl _) _⟩
set_option maxHeartbeats 1000000 in
theorem wbit_walk (m n : Nat) (p : Bool) (w : World) (h : n < 256) (hp : Hid ((bits .and .u64 (((lb m (n / 64) : Nat) : Int) / 2 ^ (n % 64)) 1 == 1) = p)) :
    Calls Try.prog 71 #[wd m, .int .u64 (n : Int)] w fun e w' => e = .returned (.bool p) ∧ Below w.heap.size w w' := by
  have hz := wa_size
  have hq : n / 64 < 4 := by omega
  have fb : (w.alloc (.cells (wa m) 24)).heap[w.heap.size]? = some (.cells (wa m) 24) := heap_alloc_new _ _
  have c1 := blk_cell fb (wa_lb m _ hq)
  clear fb
  have h1 : decide ((n : Int) < 256) = true := by simp; omega
  go_enter Try.func71, Try.ntmps71
  go_wp2
  go_ret
  exact ⟨by rw [hp.out]; rfl, (Below.refl _ _).alloc (Nat.le_refl _) _⟩
theorem wbit_wd (m n : Nat) (w : World) (_hn : n < B) : Calls Try.prog 71 #[wd m, .int .u64 (n : Int)] w fun e w' => e = .returned (.bool (decide (n < 256 ∧ bitN m n = 1))) ∧ Below w.heap.size w w' := by
  by_cases h : n < 256
  · have hp : (bits .and .u64 (((lb m (n / 64) : Nat) : Int) / 2 ^ (n % 64)) 1 == 1) = decide (n < 256 ∧ bitN m n = 1) := by
      have hl := lb_lt m (n / 64)
      have e1 : ((lb m (n / 64) : Nat) : Int) / 2 ^ (n % 64) = ((lb m (n / 64) / 2 ^ (n % 64) : Nat) : Int) := int_div_pow _ _
      have e2 := u64_and_nat (lb m (n / 64) / 2 ^ (n % 64)) 1 (Nat.lt_of_le_of_lt (Nat.div_le_self _ _) hl) (by decide)
      rw [e1]
      have e3 : bits .and .u64 ((lb m (n / 64) / 2 ^ (n % 64) : Nat) : Int) 1 = ((bitN m n : Nat) : Int) := by
        rw [← lb_bit, ← nat_mask1]; exact e2
      rw [e3, Bool.eq_iff_iff, beq_iff_eq, decide_eq_true_iff]
      omega
    exact wbit_walk m n _ w h hp
  · have hf : decide (n < 256 ∧ bitN m n = 1) = false := by simp; omega
    rw [hf]
    exact wbit_high m n w (by omega)
set_option maxHeartbeats 1000000 in
theorem byte_high (m : Nat) (n : Int) (w : World) (h : 32 ≤ n) : Calls Try.prog 55 #[wd m, .int .u64 n] w fun e w' => e = .returned (.int .u8 0) ∧ Below w.heap.size w w' := by
  have hz := wa_size
  go_enter Try.func55, Try.ntmps55
  go_wp2
  go_ret
  exact ⟨rfl, (Below.refl _ _).alloc (Nat.le_refl _) _⟩
set_option maxHeartbeats 1000000 in
theorem byte_walk (m n : Nat) (w : World) (h : n < 32) :
    Calls Try.prog 55 #[wd m, .int .u64 (n : Int)] w fun e w' => e = .returned (.int .u8 ((dig m (31 - n) : Nat) : Int)) ∧ Below w.heap.size w w' := by
  have hz := wa_size
  have hq : (31 - n) / 8 < 4 := by omega
  have fb : (w.alloc (.cells (wa m) 24)).heap[w.heap.size]? = some (.cells (wa m) 24) := heap_alloc_new _ _
  have c1 := blk_cell fb (wa_lb m _ hq)
  clear fb
  go_enter Try.func55, Try.ntmps55
  go_wp2
  have e1 : ((lb m ((31 - n) / 8) : Nat) : Int) / 2 ^ (8 * ((31 - n) % 8)) = ((lb m ((31 - n) / 8) / 2 ^ (8 * ((31 - n) % 8)) : Nat) : Int) := int_div_pow _ _
  have e2 : ((lb m ((31 - n) / 8) / 2 ^ (8 * ((31 - n) % 8)) : Nat) : Int) % 256 = ((dig m (31 - n) : Nat) : Int) := by rw [← lb_dig m (31 - n)]; rfl
  rw [e1, e2]
  go_ret
  exact ⟨rfl, (Below.refl _ _).alloc (Nat.le_refl _) _⟩
/-- The byte of a word at a place, the highest first; 0 where there is none. -/
def byteV (m n : Nat) : Nat := if n < 32 then dig m (31 - n) else 0
theorem byte_wd (m n : Nat) (w : World) : Calls Try.prog 55 #[wd m, .int .u64 (n : Int)] w fun e w' => e = .returned (.int .u8 ((byteV m n : Nat) : Int)) ∧ Below w.heap.size w w' := by
  unfold byteV
  by_cases h : n < 32
  · rw [if_pos h]; exact byte_walk m n w h
  · rw [if_neg h]; exact byte_high m n w (by omega)

set_option maxHeartbeats 1000000 in
theorem small_walk (m : Nat) (q : Bool) (w : World) (E : ∀ w : World, (Op.equalIn 10000 24 (.agg (wa m)) (.agg (wa (l0 m)))).run Try.prog w = .ok q w) :
    Calls Try.prog 53 #[wd m] w fun e w' => e = .returned (.tuple #[.int .u64 (if q then ((l0 m : Nat) : Int) else 0), .bool q]) ∧ Below w.heap.size w w' := by
  have hz := wa_size
  have hl : l0 m < B := (l_lt m).1
  go_enter Try.func53, Try.ntmps53
  go_wp2_with fail
  have f1 : (w.alloc (.cells (wa m) 24)).heap[w.heap.size]? = some (.cells (wa m) 24) := heap_alloc_new _ _
  have bW : Below w.heap.size w (w.alloc (.cells (wa m) 24)) := (Below.refl _ _).alloc (Nat.le_refl _) _
  generalize w.alloc (.cells (wa m) 24) = W at *
  have g1 := fun g : Ext W => g.word f1
  have fo := fold_wa
  have eg := Try.guardW
  cases q
  · refine region_ext (by kernel_rfl) (by kernel_rfl) ?_
    repeat (go_big_quiet_step ((go_at_call 54; with_reducible exact calls_ext (of_wd _ _ hl))))
    refine wpQuiet_nil ?_
    rintro _ ⟨g, rfl⟩
    go_wp2
    go_ret2
    exact ⟨rfl, bW.trans (g.below.mono bW.size)⟩
  · refine region_ext (by kernel_rfl) (by kernel_rfl) ?_
    repeat (go_big_quiet_step ((go_at_call 54; with_reducible exact calls_ext (of_wd _ _ hl))))
    refine wpQuiet_nil ?_
    rintro _ ⟨g, rfl⟩
    obtain ⟨k0, _, _, _⟩ := g1 g
    go_wp2
    go_ret2
    exact ⟨rfl, bW.trans (g.below.mono bW.size)⟩
/-- Is a word below 2^64? -/
def smallB (m : Nat) : Bool := decide (m % M = l0 m % M)
theorem small_wd (m : Nat) (w : World) : Calls Try.prog 53 #[wd m] w fun e w' => e = .returned (.tuple #[.int .u64 (if smallB m then ((l0 m : Nat) : Int) else 0), .bool (smallB m)]) ∧ Below w.heap.size w w' :=
  small_walk m _ w fun w => equal_wa m (l0 m) w

theorem len_wd (m : Nat) (w : World) : Calls Try.prog 70 #[wd m] w fun e w' => e = .returned (.int .i64 ((bl (m % M) : Nat) : Int)) ∧ Below w.heap.size w w' := by
  obtain ⟨A0, A1, A2, A3⟩ := l_lt m
  obtain ⟨t3, t2, t1, t0⟩ := bl_num (d := l3 m) A0 A1 A2
  rw [num_parts] at t3 t2 t1 t0
  have hb : ∀ x : Nat, x < B → bl x ≤ 64 := fun x hx => bl_le (by simp only [B] at hx; omega)
  have hf : ∀ x : Nat, x ≠ 0 → ((x : Int) != 0) = true := fun x hx => by simp [hx]
  have hg : ∀ x : Nat, x = 0 → ((x : Int) != 0) = false := fun x hx => by simp [hx]
  have hl : ∀ (x : Nat), x < B → ∀ w : World, Calls Try.prog 77 #[.int .u64 (x : Int)] w fun e w' => e = .returned (.int .i64 ((bl x : Nat) : Int)) ∧ w = w' := fun x hx w => by
    rw [← bl_lib hx]; exact len64_nat x w hx
  by_cases h3 : l3 m = 0
  · by_cases h2 : l2 m = 0
    · by_cases h1 : l1 m = 0
      · by_cases h0 : l0 m = 0
        · rw [t0 h3 h2 h1, h0]
          exact len_walkZ _ _ _ _ w (hg _ h3) (hg _ h2) (hg _ h1) (hg _ h0)
        · rw [t0 h3 h2 h1, show ((bl (l0 m) : Nat) : Int) = 0 + ((bl (l0 m) : Nat) : Int) by omega]
          exact len_walk0 _ _ _ _ _ w (hg _ h3) (hg _ h2) (hg _ h1) (hf _ h0) (by omega) (by have := hb _ A0; omega) (hl _ A0)
      · rw [t1 h3 h2 h1, show ((64 + bl (l1 m) : Nat) : Int) = 64 + ((bl (l1 m) : Nat) : Int) by omega]
        exact len_walk1 _ _ _ _ _ w (hg _ h3) (hg _ h2) (hf _ h1) (by omega) (by have := hb _ A1; omega) (hl _ A1)
    · rw [t2 h3 h2, show ((128 + bl (l2 m) : Nat) : Int) = 128 + ((bl (l2 m) : Nat) : Int) by omega]
      exact len_walk2 _ _ _ _ _ w (hg _ h3) (hf _ h2) (by omega) (by have := hb _ A2; omega) (hl _ A2)
  · rw [t3 h3, show ((192 + bl (l3 m) : Nat) : Int) = 192 + ((bl (l3 m) : Nat) : Int) by omega]
    exact len_walk3 _ _ _ _ _ w (hf _ h3) (by omega) (by have := hb _ A3; omega) (hl _ A3)

end Go.Proofs.Ytdpbjdecbilaeaa
/- What the function divide of package wide does, walked: its parts are named by contracts; all older memory is as it was. -/
namespace Go.Proofs.Ytdpbjdecbilaeaa
open Go.RowKit SmWord
set_option maxRecDepth 100000

theorem store_old {w : World} {b n m : Nat} (hb : w.heap[b]? = some (.cells (wa n) 24)) : (storeCells ⟨b, 0, none⟩ (wa m).toList 0).run Try.prog w = .ok () (w.setRow b (wa m)) := by
  have := run_storeCells_from (P := Try.prog) b _ (wa m).toList 0 (wa n) w hb (by simp [wa_size]) (fun v hv => (Array.all_eq_true_iff_forall_mem.1 (wa_one (n := m))) v (by simpa using hv))
  simpa using this

set_option maxHeartbeats 2000000 in
theorem divide_walk (h l m m1 hs ls L1 : Nat) (s : Nat) (rk qk dk : Nat → Nat) (ro : Nat) (w : World)
   (hE : Hid (∀ w : World, (Op.equalIn 10000 24 (.agg (wa m)) (.agg (wa 0))).run Try.prog w = .ok false w))
   (_hs0 : 0 ≤ s) (_hs1 : s ≤ 255)
   (Hl : Hid (∀ w : World, Calls Try.prog 70 #[wd m] w fun e w' => e = .returned (.int .i64 (256 - (s : Int))) ∧ Below w.heap.size w w'))
   (H1 : Hid (∀ w : World, Calls Try.prog 56 #[wd m, .int .u64 (s : Int)] w fun e w' => e = .returned (wd m1) ∧ Below w.heap.size w w'))
   (H2 : Hid (∀ w : World, Calls Try.prog 56 #[wd h, .int .u64 (s : Int)] w fun e w' => e = .returned (wd hs) ∧ Below w.heap.size w w'))
   (H3 : Hid (∀ w : World, Calls Try.prog 58 #[wd l, .int .u64 (256 - (s : Int))] w fun e w' => e = .returned (wd ls) ∧ Below w.heap.size w w'))
   (H4 : Hid (∀ w : World, Calls Try.prog 51 #[wd hs, wd ls] w fun e w' => e = .returned (wd (rk 4)) ∧ Below w.heap.size w w'))
   (H5 : Hid (∀ w : World, Calls Try.prog 56 #[wd l, .int .u64 (s : Int)] w fun e w' => e = .returned (wd L1) ∧ Below w.heap.size w w'))
   (hq4 : Hid (qk 4 = 0)) (Hd : Hid (∀ j, j < 4 → ∀ w : World, Calls Try.prog 76 #[wd (rk (j + 1)), .int .u64 ((lb L1 j : Nat) : Int), wd m1] w fun e w' => e = .returned (.tuple #[.int .u64 ((dk j : Nat) : Int), wd (rk j)]) ∧ Below w.heap.size w w'))
   (Hq : Hid (∀ j, j < 4 → (wa (qk (j + 1))).setIfInBounds j (.int .u64 ((dk j : Nat) : Int)) = wa (qk j)))
   (H6 : Hid (∀ w : World, Calls Try.prog 58 #[wd (rk 0), .int .u64 (s : Int)] w fun e w' => e = .returned (wd ro) ∧ Below w.heap.size w w')) :
    Calls Try.prog 66 #[wd h, wd l, wd m] w fun e w' => e = .returned (.tuple #[wd (qk 0), wd ro]) ∧ Below w.heap.size w w' := by
  have hz := z4_wa
  have hsz := wa_size
  go_enter Try.func66, Try.ntmps66
  go_upto_region 1 with fail
  have f3 : (((((w.alloc (.cells (wa h) 24)).alloc (.cells (wa l) 24)).alloc (.cells (wa m) 24)).alloc (.cells (wa 0) 24)).alloc (.cells (wa 0) 24)).heap[w.heap.size]? = some (.cells (wa h) 24) := blk_alloc (blk_alloc (blk_alloc (blk_alloc (blk_new _ rfl))))
  have f4 : (((((w.alloc (.cells (wa h) 24)).alloc (.cells (wa l) 24)).alloc (.cells (wa m) 24)).alloc (.cells (wa 0) 24)).alloc (.cells (wa 0) 24)).heap[w.heap.size + 1]? = some (.cells (wa l) 24) := blk_alloc (blk_alloc (blk_alloc (blk_new _ (by simp))))
  have f5 : (((((w.alloc (.cells (wa h) 24)).alloc (.cells (wa l) 24)).alloc (.cells (wa m) 24)).alloc (.cells (wa 0) 24)).alloc (.cells (wa 0) 24)).heap[w.heap.size + 1 + 1]? = some (.cells (wa m) 24) := blk_alloc (blk_alloc (blk_new _ (by simp)))
  have f6 : (((((w.alloc (.cells (wa h) 24)).alloc (.cells (wa l) 24)).alloc (.cells (wa m) 24)).alloc (.cells (wa 0) 24)).alloc (.cells (wa 0) 24)).heap[w.heap.size + 1 + 1 + 1]? = some (.cells (wa 0) 24) := blk_alloc (blk_new _ (by simp))
  have f7 : (((((w.alloc (.cells (wa h) 24)).alloc (.cells (wa l) 24)).alloc (.cells (wa m) 24)).alloc (.cells (wa 0) 24)).alloc (.cells (wa 0) 24)).heap[w.heap.size + 1 + 1 + 1 + 1]? = some (.cells (wa 0) 24) := blk_new _ (by simp)
  have bW : Below w.heap.size w (((((w.alloc (.cells (wa h) 24)).alloc (.cells (wa l) 24)).alloc (.cells (wa m) 24)).alloc (.cells (wa 0) 24)).alloc (.cells (wa 0) 24)) := ((((((Below.refl _ _).alloc (Nat.le_refl _) _).alloc (by simp <;> omega) _).alloc (by simp <;> omega) _).alloc (by simp <;> omega) _).alloc (by simp <;> omega) _)
  have sW : w.heap.size + 5 ≤ (((((w.alloc (.cells (wa h) 24)).alloc (.cells (wa l) 24)).alloc (.cells (wa m) 24)).alloc (.cells (wa 0) 24)).alloc (.cells (wa 0) 24)).heap.size := by simp
  generalize (((((w.alloc (.cells (wa h) 24)).alloc (.cells (wa l) 24)).alloc (.cells (wa m) 24)).alloc (.cells (wa 0) 24)).alloc (.cells (wa 0) 24)) = W at *
  have he := hE.out
  have hg := Try.guardW
  go_upto_region 3 with (refine wpList_load_row rfl 24 _ rfl _ rfl 24 _ (0, 0) _ (by assumption) Try.underlying24 rfl Try.infoWa ?_)
  clear he hg
  go_wp2_with (refine wpList_load_row rfl 24 _ rfl _ rfl 24 _ (0, 0) _ (by assumption) Try.underlying24 rfl Try.infoWa ?_)
  refine (Hl.out _).mono ?_
  rintro e w1 ⟨rfl, b1⟩
  replace f3 := Below.stays b1 f3
  replace f4 := Below.stays b1 f4
  replace f5 := Below.stays b1 f5
  replace f6 := Below.stays b1 f6
  replace f7 := Below.stays b1 f7
  replace bW := bW.trans (b1.mono bW.size)
  replace sW := Nat.le_trans sW b1.size
  clear b1
  go_wp2_with (refine wpList_load_row rfl 24 _ rfl _ rfl 24 _ (0, 0) _ (by assumption) Try.underlying24 rfl Try.infoWa ?_)
  rw [show (256 : Int) - (256 - (s : Int)) = (s : Int) by omega]
  refine (H1.out _).mono ?_
  rintro e w2 ⟨rfl, b1⟩
  replace f3 := Below.stays b1 f3
  replace f4 := Below.stays b1 f4
  replace f5 := Below.stays b1 f5
  replace f6 := Below.stays b1 f6
  replace f7 := Below.stays b1 f7
  replace bW := bW.trans (b1.mono bW.size)
  replace sW := Nat.le_trans sW b1.size
  clear b1
  go_upto_region 5 with (refine wpList_store_row rfl 24 _ _ rfl _ _ (wa m1) rfl rfl f5 Try.infoWa rfl wa_one ?_)
  simp only [Act.put]
  replace f3 := blk_row_other (b := w.heap.size + 1 + 1) (c' := wa m1) f3 (by omega)
  replace f4 := blk_row_other (b := w.heap.size + 1 + 1) (c' := wa m1) f4 (by omega)
  replace f6 := blk_row_other (b := w.heap.size + 1 + 1) (c' := wa m1) f6 (by omega)
  replace f7 := blk_row_other (b := w.heap.size + 1 + 1) (c' := wa m1) f7 (by omega)
  replace f5 := blk_row (c' := wa m1) f5
  replace bW : Below w.heap.size w (w2.setRow (w.heap.size + 1 + 1) (wa m1)) := below_setRow bW (by omega) _
  replace sW := Nat.le_trans sW (Nat.le_of_eq (setRow_size w2 (w.heap.size + 1 + 1) (wa m1)).symm)
  generalize (w2.setRow (w.heap.size + 1 + 1) (wa m1)) = w3 at *
  refine region_mk1 (aQ := ?aQ) 8 ⟨8, 9, 24, 9, 31, #[.int .u64 0, .int .u64 0, .int .u64 0, .int .u64 0], wa (rk 4)⟩ (by kernel_rfl) (by kernel_rfl) (fun w1x => ?hq) ?hok ?hh
  case hq =>
    simp only [List.take_succ_cons, List.take_zero]
    repeat (first | (go_big_quiet_want; refine quiet_load_row 24 _ rfl _ (wa h) rfl (fun w2 hw2 => by obtain ⟨g, rfl⟩ := hw2; exact g.block (w1x.block f3)) Try.underlying24 Try.infoWa ?_; simp only [Act.put, List.setIfInBounds_toArray, List.set_cons_succ, List.set_cons_zero]; go_big_quiet_on) | (go_big_quiet_want; refine quiet_load_row 24 _ rfl _ (wa l) rfl (fun w2 hw2 => by obtain ⟨g, rfl⟩ := hw2; exact g.block (w1x.block f4)) Try.underlying24 Try.infoWa ?_; simp only [Act.put, List.setIfInBounds_toArray, List.set_cons_succ, List.set_cons_zero]; go_big_quiet_on) | go_big_quiet_step (first | (go_at_call 56; with_reducible exact calls_ext (H2.out _)) | (go_at_call 58; with_reducible exact calls_ext (H3.out _)) | (go_at_call 51; with_reducible exact calls_ext (H4.out _))))
    refine wpQuiet_nil ?_
    rfl
  case hok => exact ⟨Try.zeroValue24, Try.infoW, rfl, by simp [wa, Value.oneCell'], by simp, rfl⟩
  case hh =>
    intro b9 w4 b1 lb9 f9
    simp only [Act.put, List.setIfInBounds_toArray, List.set_cons_succ, List.set_cons_zero]
    replace lb9 := Nat.le_trans sW lb9
    replace f3 := Below.stays b1 f3
    replace f4 := Below.stays b1 f4
    replace f5 := Below.stays b1 f5
    replace f6 := Below.stays b1 f6
    replace f7 := Below.stays b1 f7
    replace bW := bW.trans (b1.mono bW.size)
    replace sW := Nat.le_trans sW b1.size
    clear b1
    go_wp2_with (refine wpList_load_row rfl 24 _ rfl _ rfl 24 _ (0, 0) _ (by assumption) Try.underlying24 rfl Try.infoWa ?_)
    refine (H5.out _).mono ?_
    rintro e w5 ⟨rfl, b1⟩
    replace f3 := Below.stays b1 f3
    replace f4 := Below.stays b1 f4
    replace f5 := Below.stays b1 f5
    replace f6 := Below.stays b1 f6
    replace f7 := Below.stays b1 f7
    replace f9 := Below.stays b1 f9
    replace bW := bW.trans (b1.mono bW.size)
    replace sW := Nat.le_trans sW b1.size
    clear b1
    go_upto_region 7 with (refine wpList_store_row rfl 24 _ _ rfl _ _ (wa L1) rfl rfl f4 Try.infoWa rfl wa_one ?_)
    simp only [Act.put]
    replace f3 := blk_row_other (b := w.heap.size + 1) (c' := wa L1) f3 (by omega)
    replace f5 := blk_row_other (b := w.heap.size + 1) (c' := wa L1) f5 (by omega)
    replace f6 := blk_row_other (b := w.heap.size + 1) (c' := wa L1) f6 (by omega)
    replace f7 := blk_row_other (b := w.heap.size + 1) (c' := wa L1) f7 (by omega)
    replace f9 := blk_row_other (b := w.heap.size + 1) (c' := wa L1) f9 (by omega)
    replace f4 := blk_row (c' := wa L1) f4
    replace bW : Below w.heap.size w (w5.setRow (w.heap.size + 1) (wa L1)) := below_setRow bW (by omega) _
    replace sW := Nat.le_trans sW (Nat.le_of_eq (setRow_size w5 (w.heap.size + 1) (wa L1)).symm)
    generalize (w5.setRow (w.heap.size + 1) (wa L1)) = w6 at *
    go_upto_block 0 with fail
    have ub9 : b9 + 1 ≤ w6.heap.size := (Array.getElem?_eq_some_iff.1 f9).1
    replace f3 := blk_alloc (o' := .cells (wa 0) 24) f3
    replace f4 := blk_alloc (o' := .cells (wa 0) 24) f4
    replace f5 := blk_alloc (o' := .cells (wa 0) 24) f5
    replace f6 := blk_alloc (o' := .cells (wa 0) 24) f6
    replace f7 := blk_alloc (o' := .cells (wa 0) 24) f7
    replace f9 := blk_alloc (o' := .cells (wa 0) 24) f9
    have f10 : (w6.alloc (.cells (wa 0) 24)).heap[w6.heap.size]? = some (.cells (wa 0) 24) := heap_alloc_new _ _
    replace bW : Below w.heap.size w (w6.alloc (.cells (wa 0) 24)) := bW.alloc (by omega) _
    have sb10 : w6.heap.size + 1 ≤ (w6.alloc (.cells (wa 0) 24)).heap.size := by simp
    generalize (w6.alloc (.cells (wa 0) 24)) = w7 at *
    generalize w6.heap.size = b10 at *
    have lb10 := sW
    replace sW := Nat.le_trans (Nat.le_succ_of_le sW) sb10
    clear hz hsz f3
    go_wp2_with fail
    go_loopw [11] (fun i wr => ∃ n : Nat, n ≤ 4 ∧ i = .int .i64 ((n : Int) - 1) ∧ wr.heap[b9]? = some (.cells (wa (rk n)) 24) ∧ wr.heap[b10]? = some (.cells (wa (qk n)) 24) ∧ wr.heap[w.heap.size + 1]? = some (.cells (wa L1) 24) ∧ wr.heap[w.heap.size + 1 + 1]? = some (.cells (wa m1) 24) ∧ wr.heap[w.heap.size + 1 + 1 + 1]? = some (.cells (wa 0) 24) ∧ wr.heap[w.heap.size + 1 + 1 + 1 + 1]? = some (.cells (wa 0) 24) ∧ Below w.heap.size w wr) (fun i _ => (intOf i + 1).toNat)
    case atStart => exact ⟨4, Nat.le_refl _, rfl, f9, by rw [hq4.out]; exact f10, f4, f5, f6, f7, bW⟩
    case round =>
      clear f4 f5 f6 f7 f9 f10 bW sW
      obtain ⟨n, hn, rfl, f9, f10, f4, f5, f6, f7, bW⟩ := hrel
      cases n with
      | zero =>
        go_wp2_with fail
        have d9 := word_cells f9
        have d10 := word_cells f10
        have fo := fold_wa
        go_region_with (first | (go_at_call 58; refine (H6.out _).mono ?_; rintro e w8 ⟨rfl, hb⟩; have g10 := word_cells (Below.stays hb f10); have g6 := Below.stays hb f6; have g7 := Below.stays hb f7; have k1 := store_old (m := qk 0) g6; have k2 := store_old (m := ro) (blk_row_other (b := w.heap.size + 1 + 1 + 1) (c' := wa (qk 0)) g7 (by omega)); clear g6 g7))
        all_goals
          have g6 := Below.stays hb f6
          have g7 := Below.stays hb f7
          have bX : Below w.heap.size w w8 := bW.drew.trans (hb.mono bW.size)
          have e6 := word_cells (blk_row_other (b := w.heap.size + 1 + 1 + 1 + 1) (c' := wa ro) (blk_row (c' := wa (qk 0)) g6) (by omega))
          have e7 := word_cells (blk_row (c' := wa ro) (blk_row_other (b := w.heap.size + 1 + 1 + 1) (c' := wa (qk 0)) g7 (by omega)))
          clear k1 k2 d9 d10 hb f4 f5 f6 f7 f9 f10 bW
          go_wp2_with fail
          refine bodyPost_ret (v := .tuple #[wd (qk 0), wd ro]) (by simp [results, Try.results66, go_sem, e6, e7, fo]) rfl ⟨rfl, below_setRow (below_setRow bX (by omega) _) (by omega) _⟩
      | succ j =>
        rw [show (((j + 1 : Nat) : Int) - 1) = (j : Int) by omega]
        have hj : j < 4 := by omega
        have c4 := blk_cell f4 (wa_lb L1 j hj)
        have d9 := word_cells f9
        have d5 := word_cells f5
        have fo := fold_wa
        go_wp2_with fail
        go_region_with (first | (go_at_call 76; refine (Hd.out j hj _).mono ?_; rintro e w8 ⟨rfl, hb⟩; have g10 := Below.stays hb f10; have g9 := Below.stays hb f9; have k1 := blk_cell g10 (wa_lb (qk (j + 1)) j hj); have k2 := blk_frozen (j := j) g10; have k3 := store_old (m := rk j) (blk_other (b := b10) (j := j) g9 (by omega) (.int .u64 ((dk j : Nat) : Int))); clear g10 g9))
        all_goals
          have g4 := Below.stays hb f4
          have g5 := Below.stays hb f5
          have g6 := Below.stays hb f6
          have g7 := Below.stays hb f7
          have g9 := Below.stays hb f9
          have g10 := Below.stays hb f10
          have bX : Below w.heap.size w w8 := bW.drew.trans (hb.mono bW.size)
          clear k1 k2 k3 c4 d9 d5 fo hb f4 f5 f6 f7 f9 f10 bW
          go_wp2_with fail
          refine ⟨⟨j, by omega, rfl, blk_row (blk_other (j := j) g9 (by omega) _), ?_, blk_row_other (blk_other (j := j) g4 (by omega) _) (by omega), blk_row_other (blk_other (j := j) g5 (by omega) _) (by omega), blk_row_other (blk_other (j := j) g6 (by omega) _) (by omega), blk_row_other (blk_other (j := j) g7 (by omega) _) (by omega), below_setRow (bX.setCell (by show _ ≤ b10; omega) _) (by omega) _⟩, by simp only [intOf]; omega⟩
          rw [← Hq.out j hj]
          exact blk_row_other (blk_set g10 _) (by omega)
    
end Go.Proofs.Ytdpbjdecbilaeaa
/- Plain arithmetic on long division of a word, shifted: no program is named here. -/
namespace Go.Proofs.Ytdpbjdecbilaeaa.SmWord

theorem or_parts (a b : Nat) : num (l0 a ||| l0 b) (l1 a ||| l1 b) (l2 a ||| l2 b) (l3 a ||| l3 b) = (a ||| b) % M := by
  rw [← num_parts]
  have hB : B = 2 ^ 64 := by decide
  have d : ∀ x y : Nat, (x ||| y) / B = x / B ||| y / B := fun x y => by rw [hB]; exact Nat.or_div_two_pow
  have m : ∀ x y : Nat, (x ||| y) % B = x % B ||| y % B := fun x y => by rw [hB]; exact Nat.or_mod_two_pow
  unfold l0 l1 l2 l3
  simp only [d, m]
theorem or_apart {x s b : Nat} (hb : b < 2 ^ s) : x * 2 ^ s ||| b = x * 2 ^ s + b := Go.nat_join s (x * 2 ^ s) b (Nat.mul_mod_left _ _) hb

/-- What stands above the j lowest parts, when a rest R and a lower word L are divided. -/
def xk (R L j : Nat) : Nat := R * B ^ (4 - j) + L / B ^ j
theorem xk_top {R L : Nat} (hL : L < M) : xk R L 4 = R := by
  unfold xk
  have : L / B ^ 4 = 0 := Nat.div_eq_of_lt (by rw [show B ^ 4 = M by decide]; exact hL)
  rw [this]; simp
theorem xk_zero (R L : Nat) : xk R L 0 = R * M + L := by
  unfold xk
  rw [show B ^ (4 - 0) = M by decide, Nat.pow_zero, Nat.div_one]
theorem xk_step (R L j : Nat) (hj : j < 4) : xk R L j = xk R L (j + 1) * B + lb L j := by
  unfold xk lb
  have e : 4 - j = (4 - (j + 1)) + 1 := by omega
  have h := Nat.div_add_mod (L / B ^ j) B
  rw [Nat.div_div_eq_div_mul, ← Nat.pow_succ] at h
  rw [e, Nat.pow_succ, Nat.add_mul, ← Nat.mul_assoc]
  generalize R * B ^ (4 - (j + 1)) = z
  generalize L / B ^ j % B = y at *
  generalize L / B ^ j = u at *
  generalize L / B ^ (j + 1) = v at *
  simp only [B] at *
  omega
theorem xk_div (R L j m : Nat) (hj : j < 4) (hm : 0 < m) :
    xk R L j / m = xk R L (j + 1) / m * B + (xk R L (j + 1) % m * B + lb L j) / m ∧ xk R L j % m = (xk R L (j + 1) % m * B + lb L j) % m := by
  rw [xk_step R L j hj]
  have e := Nat.div_add_mod (xk R L (j + 1)) m
  have key : xk R L (j + 1) * B + lb L j = xk R L (j + 1) % m * B + lb L j + m * (xk R L (j + 1) / m * B) := by
    rw [← Nat.mul_assoc]
    generalize xk R L (j + 1) % m = r at *
    generalize m * (xk R L (j + 1) / m) = z at *
    rw [← e, Nat.add_mul]
    omega
  generalize xk R L (j + 1) = X at *
  rw [key, Nat.add_mul_div_left _ _ hm, Nat.add_mul_mod_self_left]
  exact ⟨Nat.add_comm _ _, rfl⟩
def qk (R L m j : Nat) : Nat := xk R L j / m * B ^ j
theorem qk_step (R L j m : Nat) (hj : j < 4) (hm : 0 < m) : qk R L m j = qk R L m (j + 1) + (xk R L (j + 1) % m * B + lb L j) / m * B ^ j := by
  unfold qk
  rw [(xk_div R L j m hj hm).1, Nat.add_mul, Nat.pow_succ, Nat.mul_assoc, Nat.mul_comm B]
theorem part_low (b y : Nat) {i j : Nat} (hb : 0 < b) (h : i < j) : y * b ^ j / b ^ i % b = 0 := by
  have e : b ^ j = b ^ i * (b * b ^ (j - i - 1)) := by rw [← Nat.pow_succ', ← Nat.pow_add]; congr 1; omega
  have e2 : y * (b ^ i * (b * b ^ (j - i - 1))) = b ^ i * (b * (y * b ^ (j - i - 1))) := by
    rw [Nat.mul_left_comm, Nat.mul_left_comm y]
  rw [e, e2, Nat.mul_div_cancel_left _ (Nat.pow_pos hb), Nat.mul_mod_right]
theorem part_up (b y : Nat) {i j : Nat} (hb : 0 < b) (h : j < i) : y * b ^ j / b ^ i % b = y / b / b ^ (i - j - 1) % b := by
  have e : b ^ i = b ^ j * (b * b ^ (i - j - 1)) := by rw [← Nat.pow_succ', ← Nat.pow_add]; congr 1; omega
  rw [e, ← Nat.div_div_eq_div_mul, Nat.mul_div_cancel _ (Nat.pow_pos hb), ← Nat.div_div_eq_div_mul]
theorem part_set (b q d j i : Nat) (hb : 0 < b) (hd : d < b) : (q * b ^ (j + 1) + d * b ^ j) / b ^ i % b = if i = j then d else q * b ^ (j + 1) / b ^ i % b := by
  have e : q * b ^ (j + 1) + d * b ^ j = (q * b + d) * b ^ j := by rw [Nat.pow_succ, Nat.add_mul, Nat.mul_assoc, Nat.mul_comm b]
  have e' : q * b ^ (j + 1) = (q * b) * b ^ j := by rw [Nat.pow_succ, Nat.mul_assoc, Nat.mul_comm b]
  rw [e, e']
  rcases Nat.lt_trichotomy i j with h | h | h
  · rw [if_neg (by omega), part_low b _ hb h, part_low b _ hb h]
  · subst h
    rw [if_pos rfl, Nat.mul_div_cancel _ (Nat.pow_pos hb), Nat.add_comm, Nat.add_mul_mod_self_right, Nat.mod_eq_of_lt hd]
  · rw [if_neg (by omega), part_up b _ hb h, part_up b _ hb h, Nat.mul_comm q b, Nat.mul_add_div hb, Nat.div_eq_of_lt hd, Nat.mul_div_cancel_left _ hb, Nat.add_zero]
/-- A part that is 0, with 0 below it, set. -/
theorem lb_set (q d j i : Nat) (hd : d < B) : lb (q * B ^ (j + 1) + d * B ^ j) i = if i = j then d else lb (q * B ^ (j + 1)) i := by
  unfold lb
  exact part_set B q d j i (by decide) hd

/-- The shift. -/
theorem dv_shift {m : Nat} (hm : m < M) (h0 : m ≠ 0) : ∃ s : Nat, s ≤ 255 ∧ bl m = 256 - s ∧ m * 2 ^ s < M ∧ M ≤ 2 * (m * 2 ^ s) := by
  obtain ⟨k, e, h1, h2⟩ := bl_spec h0
  have hk : k < 256 := by
    apply Nat.lt_of_not_le
    intro h
    have : 2 ^ 256 ≤ 2 ^ k := Nat.pow_le_pow_right (by decide) h
    rw [M_2] at hm
    omega
  refine ⟨255 - k, by omega, by omega, ?_, ?_⟩
  · have : m * 2 ^ (255 - k) < 2 ^ (k + 1) * 2 ^ (255 - k) := Nat.mul_lt_mul_of_pos_right h2 (Nat.two_pow_pos _)
    rw [← Nat.pow_add, show k + 1 + (255 - k) = 256 by omega, ← M_2] at this
    exact this
  · have : 2 ^ k * 2 ^ (255 - k) ≤ m * 2 ^ (255 - k) := Nat.mul_le_mul_right _ h1
    rw [← Nat.pow_add, show k + (255 - k) = 255 by omega] at this
    have h3 : M = 2 * 2 ^ 255 := by decide
    rw [h3]
    exact Nat.mul_le_mul_left _ this
/-- What is shifted, put together again. -/
theorem dv_join {H L s : Nat} (hs : s ≤ 256) : (H * 2 ^ s + L / 2 ^ (256 - s)) * M + L * 2 ^ s % M = (H * M + L) * 2 ^ s := by
  have e : L / 2 ^ (256 - s) = L * 2 ^ s / M := by
    rw [M_2, show (256 : Nat) = (256 - s) + s by omega, Nat.pow_add, show 256 - s + s - s = 256 - s by omega, Nat.mul_div_mul_right _ _ (Nat.two_pow_pos s)]
  have d := Nat.div_add_mod (L * 2 ^ s) M
  rw [e, Nat.add_mul, Nat.add_mul]
  rw [Nat.mul_comm M] at d
  have : H * 2 ^ s * M = H * M * 2 ^ s := Nat.mul_right_comm _ _ _
  omega
theorem dv_low {L s : Nat} (hL : L < M) (hs : s ≤ 256) : L / 2 ^ (256 - s) < 2 ^ s := by
  rw [Nat.div_lt_iff_lt_mul (Nat.two_pow_pos _), ← Nat.pow_add, show s + (256 - s) = 256 by omega, ← M_2]
  exact hL
theorem dv_rest {H m s b : Nat} (hH : H < m) (hb : b < 2 ^ s) : H * 2 ^ s + b < m * 2 ^ s := by
  have : (H + 1) * 2 ^ s ≤ m * 2 ^ s := Nat.mul_le_mul_right _ hH
  rw [Nat.add_mul] at this
  omega
end Go.Proofs.Ytdpbjdecbilaeaa.SmWord
/- What the function divide of package wide does, in numbers: a quotient, cut down, and what is left; 0 and 0, where the divisor is 0; all older memory is as it was. -/
namespace Go.Proofs.Ytdpbjdecbilaeaa
open Go.RowKit SmWord
set_option maxRecDepth 100000

set_option maxHeartbeats 1000000 in
theorem divide_walk0 (a0 a1 a2 a3 b0 b1 b2 b3 : Int) (w : World) :
    Calls Try.prog 66 #[.agg #[.int .u64 a0, .int .u64 a1, .int .u64 a2, .int .u64 a3], .agg #[.int .u64 b0, .int .u64 b1, .int .u64 b2, .int .u64 b3], .agg #[.int .u64 0, .int .u64 0, .int .u64 0, .int .u64 0]] w fun e w' =>
      e = .returned (.tuple #[.agg #[.int .u64 0, .int .u64 0, .int .u64 0, .int .u64 0], .agg #[.int .u64 0, .int .u64 0, .int .u64 0, .int .u64 0]]) ∧ Below w.heap.size w w' := by
  have he : ∀ w : World, (Op.equalIn 10000 24 (.agg #[.int .u64 0, .int .u64 0, .int .u64 0, .int .u64 0]) (.agg #[.int .u64 0, .int .u64 0, .int .u64 0, .int .u64 0])).run Try.prog w = .ok true w := fun w => by
    have := equal_wa 0 0 w
    rw [decide_eq_true rfl] at this
    exact this
  have hg := Try.guardW
  go_enter Try.func66, Try.ntmps66
  go_wp2
  refine bodyPost_ret (v := .tuple #[.agg #[.int .u64 0, .int .u64 0, .int .u64 0, .int .u64 0], .agg #[.int .u64 0, .int .u64 0, .int .u64 0, .int .u64 0]]) (by simp [results, Try.results66, go_sem]) rfl ⟨rfl, ?_⟩
  repeat (first | exact Below.refl _ _ | refine Below.drew ?_ | refine Below.alloc ?_ (by simp; try omega) _ | refine Below.setCell ?_ (by simp; try omega) _)

theorem wa_setN (q d j : Nat) (hj : j < 4) (hd : d < B) : (wa (q * B ^ (j + 1))).setIfInBounds j (.int .u64 ((d : Nat) : Int)) = wa (q * B ^ (j + 1) + d * B ^ j) := by
  apply Array.ext_getElem?
  intro i
  by_cases hi : i < 4
  · rw [wa_lb _ i hi, lb_set q d j i hd]
    by_cases hij : i = j
    · subst hij
      rw [if_pos rfl, Array.getElem?_setIfInBounds_self_of_lt (by rw [wa_size]; exact hi)]
    · rw [if_neg hij, Array.getElem?_setIfInBounds_ne (Ne.symm hij), wa_lb _ i hi]
  · rw [Array.getElem?_eq_none (by rw [Array.size_setIfInBounds, wa_size]; omega), Array.getElem?_eq_none (by rw [wa_size]; omega)]

theorem divide_pos (H L m s : Nat) (hH : H < m) (hL : L < M) (hm : m < M) (hs : s ≤ 255) (hb : bl m = 256 - s) (h1 : m * 2 ^ s < M) (h2 : M ≤ 2 * (m * 2 ^ s)) (w : World) :
    Calls Try.prog 66 #[wd H, wd L, wd m] w fun e w' => e = .returned (.tuple #[wd ((H * M + L) / m), wd ((H * M + L) % m)]) ∧ Below w.heap.size w w' := by
  have hm0 : 0 < m := by omega
  have hB : s < B := by simp only [B]; omega
  have hp := Nat.two_pow_pos s
  have hm1 : 0 < m * 2 ^ s := Nat.mul_pos hm0 hp
  have hlow := dv_low hL (show s ≤ 256 by omega)
  have hR := dv_rest hH hlow
  have hL1 : L * 2 ^ s % M < M := Nat.mod_lt _ (by decide)
  have hj := dv_join (H := H) (L := L) (show s ≤ 256 by omega)
  obtain ⟨R, eR⟩ : ∃ R, H * 2 ^ s + L / 2 ^ (256 - s) = R := ⟨_, rfl⟩
  obtain ⟨L1, eL⟩ : ∃ L1, L * 2 ^ s % M = L1 := ⟨_, rfl⟩
  obtain ⟨m1, em⟩ : ∃ m1, m * 2 ^ s = m1 := ⟨_, rfl⟩
  rw [eR] at hR hj
  rw [eL] at hL1 hj
  rw [em] at h1 h2 hR hm1
  have x4 := xk_top (R := R) hL1
  have x0 := xk_zero R L1
  rw [hj] at x0
  have q0 : qk R L1 m1 0 = (H * M + L) / m := by
    unfold qk
    rw [x0, Nat.pow_zero, Nat.mul_one, ← em, Nat.mul_div_mul_right _ _ hp]
  have r0 : xk R L1 0 % m1 = (H * M + L) % m * 2 ^ s := by rw [x0, ← em, Nat.mul_mod_mul_right]
  have key := divide_walk H L m m1 (H * 2 ^ s) (L / 2 ^ (256 - s)) L1 s (fun j => xk R L1 j % m1) (qk R L1 m1) (fun j => (xk R L1 (j + 1) % m1 * B + lb L1 j) / m1) ((H * M + L) % m) w
    (Lib.hid fun w => by rw [equal_wa, Nat.mod_eq_of_lt hm, Nat.zero_mod, decide_eq_false (by omega)]) (Nat.zero_le _) hs
    (Lib.hid fun w => by
      have := len_wd m w
      rw [Nat.mod_eq_of_lt hm, hb, show (((256 - s : Nat)) : Int) = 256 - (s : Int) by omega] at this
      exact this)
    (Lib.hid fun w => by rw [← em]; exact shl_wd m s hB w)
    (Lib.hid fun w => shl_wd H s hB w)
    (Lib.hid fun w => by
      have := shr_wd L (256 - s) (by simp only [B]; omega) w
      rw [Nat.mod_eq_of_lt hL, show (((256 - s : Nat)) : Int) = 256 - (s : Int) by omega] at this
      exact this)
    (Lib.hid fun w => by
      have := or_wd (H * 2 ^ s) (L / 2 ^ (256 - s)) w
      rw [or_parts, or_apart hlow, eR, wd_congr (Nat.mod_mod R M)] at this
      show Calls Try.prog 51 _ w fun e w' => e = .returned (wd (xk R L1 4 % m1)) ∧ _
      rw [x4, Nat.mod_eq_of_lt hR]
      exact this)
    (Lib.hid fun w => by
      have := shl_wd L s hB w
      rw [← wd_congr (Nat.mod_mod (L * 2 ^ s) M), eL] at this
      exact this)
    (Lib.hid (by unfold qk; rw [x4, Nat.div_eq_of_lt hR, Nat.zero_mul]))
    (Lib.hid fun j hj w => by
      show Calls Try.prog 76 _ w fun e w' => e = .returned (.tuple #[_, wd (xk R L1 j % m1)]) ∧ _
      rw [(xk_div R L1 j m1 hj hm1).2]
      exact digit_wd (xk R L1 (j + 1) % m1) (lb L1 j) m1 (Nat.mod_lt _ hm1) (lb_lt _ _) h1 h2 w)
    (Lib.hid fun j hj => by
      rw [qk_step R L1 j m1 hj hm1]
      unfold qk
      refine wa_setN _ _ j hj ?_
      rw [Nat.div_lt_iff_lt_mul hm1]
      have t1 := Nat.mod_lt (xk R L1 (j + 1)) hm1
      have t2 := lb_lt L1 j
      have t3 : (xk R L1 (j + 1) % m1 + 1) * B ≤ m1 * B := Nat.mul_le_mul_right _ t1
      rw [Nat.add_mul] at t3
      rw [Nat.mul_comm B m1]
      omega)
    (Lib.hid fun w => by
      have := shr_wd (xk R L1 0 % m1) s hB w
      have t1 := Nat.mod_lt (xk R L1 0) hm1
      rw [Nat.mod_eq_of_lt (show xk R L1 0 % m1 < M by omega)] at this
      show Calls Try.prog 58 #[wd (xk R L1 0 % m1), _] w _
      rw [r0, Nat.mul_div_cancel _ hp] at this
      rw [r0]
      exact this)
  rw [q0] at key
  exact key

theorem divide_wd (h l m : Nat) (hh : h % M < m % M ∨ m % M = 0) (w : World) :
    Calls Try.prog 66 #[wd h, wd l, wd m] w fun e w' => e = .returned (.tuple #[wd ((h % M * M + l % M) / (m % M)), wd (rs (h % M * M + l % M) (m % M))]) ∧ Below w.heap.size w w' := by
  by_cases hm : m % M = 0
  · rw [hm, Nat.div_zero, rs_zero, wd_congr (show m % M = 0 % M by rw [hm, Nat.zero_mod])]
    exact divide_walk0 _ _ _ _ _ _ _ _ w
  · have hlt : m % M < M := Nat.mod_lt _ (by decide)
    obtain ⟨s, hs, hb, h1, h2⟩ := dv_shift hlt hm
    have := divide_pos (h % M) (l % M) (m % M) s (by omega) (Nat.mod_lt _ (by decide)) hlt hs hb h1 h2 w
    rw [rs_pos hm]
    rw [wd_congr (Nat.mod_mod h M), wd_congr (Nat.mod_mod l M), wd_congr (Nat.mod_mod m M)] at this
    exact this
end Go.Proofs.Ytdpbjdecbilaeaa
/- What the functions Div, left, AddMod, MulMod and Product of package wide do, in numbers; all older memory is as it was. -/
namespace Go.Proofs.Ytdpbjdecbilaeaa
open Go.RowKit SmWord
set_option maxRecDepth 100000

theorem setRow_alloc {w : World} {g : Nat} (h : g < w.heap.size) (c : Array Value) (o : Obj) : (w.alloc o).setRow g c = (w.setRow g c).alloc o := by
  unfold World.setRow World.alloc
  simp only [World.mk.injEq, and_true]
  apply Array.ext_getElem?
  intro i
  simp only [Array.getElem?_modify, Array.getElem?_push, Array.size_modify]
  by_cases hi : i = w.heap.size
  · subst hi
    rw [if_neg (by omega), if_pos rfl, if_pos rfl]
  · by_cases hg : g = i
    · subst hg
      simp [hi]
    · simp [hi, hg]
/-- Two new variables, filled one behind the other. -/
theorem store_pair1 (w : World) (a : Nat) : (storeCells ⟨w.heap.size, 0, none⟩ (wa a).toList 0).run Try.prog ((w.alloc (.cells (wa 0) 24)).alloc (.cells (wa 0) 24)) = .ok () ((w.alloc (.cells (wa a) 24)).alloc (.cells (wa 0) 24)) := by
  rw [store_old (n := 0) (blk_alloc (blk_new _ rfl)), setRow_alloc (by simp), World.setRow_alloc_new]
theorem store_pair2 (w : World) (a b : Nat) : (storeCells ⟨w.heap.size + 1, 0, none⟩ (wa b).toList 0).run Try.prog ((w.alloc (.cells (wa a) 24)).alloc (.cells (wa 0) 24)) = .ok () ((w.alloc (.cells (wa a) 24)).alloc (.cells (wa b) 24)) := by
  have := store_new0 (w.alloc (.cells (wa a) 24)) b
  rw [World.size_alloc] at this
  exact this

set_option maxHeartbeats 1000000 in
theorem div_walk (a b q r : Nat) (w : World) (H : Hid (∀ w : World, Calls Try.prog 66 #[wd 0, wd a, wd b] w fun e w' => e = .returned (.tuple #[wd q, wd r]) ∧ Below w.heap.size w w')) :
    Calls Try.prog 43 #[wd a, wd b] w fun e w' => e = .returned (.tuple #[wd q, wd r]) ∧ Below w.heap.size w w' := by
  have hz := z4_wa
  have hsz := wa_size
  go_enter Try.func43, Try.ntmps43
  go_upto_region 1 with fail
  have f2 : ((((w.alloc (.cells (wa a) 24)).alloc (.cells (wa b) 24)).alloc (.cells (wa 0) 24)).alloc (.cells (wa 0) 24)).heap[w.heap.size]? = some (.cells (wa a) 24) := blk_alloc (blk_alloc (blk_alloc (blk_new _ rfl)))
  have f3 : ((((w.alloc (.cells (wa a) 24)).alloc (.cells (wa b) 24)).alloc (.cells (wa 0) 24)).alloc (.cells (wa 0) 24)).heap[w.heap.size + 1]? = some (.cells (wa b) 24) := blk_alloc (blk_alloc (blk_new _ (by simp)))
  have f4 : ((((w.alloc (.cells (wa a) 24)).alloc (.cells (wa b) 24)).alloc (.cells (wa 0) 24)).alloc (.cells (wa 0) 24)).heap[w.heap.size + 1 + 1]? = some (.cells (wa 0) 24) := blk_alloc (blk_new _ (by simp))
  have f5 : ((((w.alloc (.cells (wa a) 24)).alloc (.cells (wa b) 24)).alloc (.cells (wa 0) 24)).alloc (.cells (wa 0) 24)).heap[w.heap.size + 1 + 1 + 1]? = some (.cells (wa 0) 24) := blk_new _ (by simp)
  have bW : Below w.heap.size w ((((w.alloc (.cells (wa a) 24)).alloc (.cells (wa b) 24)).alloc (.cells (wa 0) 24)).alloc (.cells (wa 0) 24)) := (((((Below.refl _ _).alloc (Nat.le_refl _) _).alloc (by simp <;> omega) _).alloc (by simp <;> omega) _).alloc (by simp <;> omega) _)
  have sW : w.heap.size + 4 ≤ ((((w.alloc (.cells (wa a) 24)).alloc (.cells (wa b) 24)).alloc (.cells (wa 0) 24)).alloc (.cells (wa 0) 24)).heap.size := by simp
  generalize ((((w.alloc (.cells (wa a) 24)).alloc (.cells (wa b) 24)).alloc (.cells (wa 0) 24)).alloc (.cells (wa 0) 24)) = W at *
  go_wp2_with (refine wpList_load_row rfl 24 _ rfl _ rfl 24 _ (0, 0) _ (by assumption) Try.underlying24 rfl Try.infoWa ?_)
  refine (H.out _).mono ?_
  rintro e w1 ⟨rfl, b1⟩
  replace f2 := Below.stays b1 f2
  replace f3 := Below.stays b1 f3
  replace f4 := Below.stays b1 f4
  replace f5 := Below.stays b1 f5
  replace bW := bW.trans (b1.mono bW.size)
  replace sW := Nat.le_trans sW b1.size
  clear b1
  go_wp2_with (first | (refine wpList_store_row rfl 24 (.tmp 4) _ rfl _ _ (wa q) rfl rfl f4 Try.infoWa rfl wa_one ?_) | (refine wpList_store_row rfl 24 (.tmp 5) _ rfl _ _ (wa r) rfl rfl (blk_row_other f5 (by omega)) Try.infoWa rfl wa_one ?_))
  have e4 := word_cells (blk_row_other (b := w.heap.size + 1 + 1 + 1) (c' := wa r) (blk_row (c' := wa q) f4) (by omega))
  have e5 := word_cells (blk_row (c' := wa r) (blk_row_other (b := w.heap.size + 1 + 1) (c' := wa q) f5 (by omega)))
  exact bodyPost_ret (v := .tuple #[wd q, wd r]) (by simp [results, Try.results43, go_sem, e4, e5, fold_wa]) rfl ⟨rfl, below_setRow (below_setRow bW (by omega) _) (by omega) _⟩
theorem div_wd (a b : Nat) (w : World) : Calls Try.prog 43 #[wd a, wd b] w fun e w' => e = .returned (.tuple #[wd (a % M / (b % M)), wd (rs (a % M) (b % M))]) ∧ Below w.heap.size w w' :=
  div_walk a b _ _ w (Lib.hid fun w => by
    have := divide_wd 0 a b (by rw [Nat.zero_mod]; omega) w
    rw [Nat.zero_mod, Nat.zero_mul, Nat.zero_add] at this
    exact this)

set_option maxHeartbeats 1000000 in
theorem left_walk (h l m q1 r1 q2 r2 : Nat) (w : World) (H1 : Hid (∀ w : World, Calls Try.prog 66 #[wd 0, wd h, wd m] w fun e w' => e = .returned (.tuple #[wd q1, wd r1]) ∧ Below w.heap.size w w')) (H2 : Hid (∀ w : World, Calls Try.prog 66 #[wd r1, wd l, wd m] w fun e w' => e = .returned (.tuple #[wd q2, wd r2]) ∧ Below w.heap.size w w')) :
    Calls Try.prog 73 #[wd h, wd l, wd m] w fun e w' => e = .returned (wd r2) ∧ Below w.heap.size w w' := by
  have hz := z4_wa
  have hsz := wa_size
  have hp1 := store_pair1
  have hp2 := store_pair2
  go_enter Try.func73, Try.ntmps73
  go_upto_region 1 with fail
  have f3 : ((((w.alloc (.cells (wa h) 24)).alloc (.cells (wa l) 24)).alloc (.cells (wa m) 24)).alloc (.cells (wa 0) 24)).heap[w.heap.size]? = some (.cells (wa h) 24) := blk_alloc (blk_alloc (blk_alloc (blk_new _ rfl)))
  have f4 : ((((w.alloc (.cells (wa h) 24)).alloc (.cells (wa l) 24)).alloc (.cells (wa m) 24)).alloc (.cells (wa 0) 24)).heap[w.heap.size + 1]? = some (.cells (wa l) 24) := blk_alloc (blk_alloc (blk_new _ (by simp)))
  have f5 : ((((w.alloc (.cells (wa h) 24)).alloc (.cells (wa l) 24)).alloc (.cells (wa m) 24)).alloc (.cells (wa 0) 24)).heap[w.heap.size + 1 + 1]? = some (.cells (wa m) 24) := blk_alloc (blk_new _ (by simp))
  have f6 : ((((w.alloc (.cells (wa h) 24)).alloc (.cells (wa l) 24)).alloc (.cells (wa m) 24)).alloc (.cells (wa 0) 24)).heap[w.heap.size + 1 + 1 + 1]? = some (.cells (wa 0) 24) := blk_new _ (by simp)
  have bW : Below w.heap.size w ((((w.alloc (.cells (wa h) 24)).alloc (.cells (wa l) 24)).alloc (.cells (wa m) 24)).alloc (.cells (wa 0) 24)) := (((((Below.refl _ _).alloc (Nat.le_refl _) _).alloc (by simp <;> omega) _).alloc (by simp <;> omega) _).alloc (by simp <;> omega) _)
  have sW : w.heap.size + 4 ≤ ((((w.alloc (.cells (wa h) 24)).alloc (.cells (wa l) 24)).alloc (.cells (wa m) 24)).alloc (.cells (wa 0) 24)).heap.size := by simp
  generalize ((((w.alloc (.cells (wa h) 24)).alloc (.cells (wa l) 24)).alloc (.cells (wa m) 24)).alloc (.cells (wa 0) 24)) = W at *
  go_wp2_with (refine wpList_load_row rfl 24 _ rfl _ rfl 24 _ (0, 0) _ (by assumption) Try.underlying24 rfl Try.infoWa ?_)
  refine (H1.out _).mono ?_
  rintro e w1 ⟨rfl, b1⟩
  replace f3 := Below.stays b1 f3
  replace f4 := Below.stays b1 f4
  replace f5 := Below.stays b1 f5
  replace f6 := Below.stays b1 f6
  replace bW := bW.trans (b1.mono bW.size)
  replace sW := Nat.le_trans sW b1.size
  clear b1
  go_upto_region 2 with (refine wpList_store_row rfl 24 (.tmp 3) _ rfl _ _ (wa r1) rfl rfl f3 Try.infoWa rfl wa_one ?_)
  simp only [Act.put]
  replace f4 := blk_row_other (b := w.heap.size) (c' := wa r1) f4 (by omega)
  replace f5 := blk_row_other (b := w.heap.size) (c' := wa r1) f5 (by omega)
  replace f6 := blk_row_other (b := w.heap.size) (c' := wa r1) f6 (by omega)
  replace f3 := blk_row (c' := wa r1) f3
  replace bW : Below w.heap.size w (w1.setRow (w.heap.size) (wa r1)) := below_setRow bW (by omega) _
  replace sW := Nat.le_trans sW (Nat.le_of_eq (setRow_size w1 (w.heap.size) (wa r1)).symm)
  generalize (w1.setRow (w.heap.size) (wa r1)) = w2 at *
  go_wp2_with (refine wpList_load_row rfl 24 _ rfl _ rfl 24 _ (0, 0) _ (by assumption) Try.underlying24 rfl Try.infoWa ?_)
  refine (H2.out _).mono ?_
  rintro e w3 ⟨rfl, b1⟩
  replace f3 := Below.stays b1 f3
  replace f4 := Below.stays b1 f4
  replace f5 := Below.stays b1 f5
  replace f6 := Below.stays b1 f6
  replace bW := bW.trans (b1.mono bW.size)
  replace sW := Nat.le_trans sW b1.size
  clear b1
  go_upto_region 3 with fail
  replace f6 : ((w3.alloc (.cells (wa q2) 24)).alloc (.cells (wa r2) 24)).heap[w.heap.size + 1 + 1 + 1]? = some (.cells (wa 0) 24) := blk_alloc (blk_alloc f6)
  have f8 : ((w3.alloc (.cells (wa q2) 24)).alloc (.cells (wa r2) 24)).heap[w3.heap.size + 1]? = some (.cells (wa r2) 24) := blk_new _ (by simp)
  replace bW : Below w.heap.size w ((w3.alloc (.cells (wa q2) 24)).alloc (.cells (wa r2) 24)) := (bW.alloc (by omega) _).alloc (by simp; omega) _
  clear f3 f4 f5 hp1 hp2
  generalize ((w3.alloc (.cells (wa q2) 24)).alloc (.cells (wa r2) 24)) = w4 at *
  generalize w3.heap.size = b7 at *
  go_wp2_with (first | (refine wpList_load_row rfl 24 _ rfl _ rfl 24 _ (0, 0) _ (by assumption) Try.underlying24 rfl Try.infoWa ?_) | (refine wpList_store_row rfl 24 (.tmp 6) _ rfl _ _ (wa r2) rfl rfl f6 Try.infoWa rfl wa_one ?_))
  have e6 := word_cells (blk_row (c' := wa r2) f6)
  exact bodyPost_ret (v := wd r2) (by simp [results, Try.results73, go_sem, e6, fold_wa]) rfl ⟨rfl, below_setRow bW (by omega) _⟩
theorem rs_lt {x m : Nat} (hm : m < M) : rs x m < M := by
  unfold rs
  split
  · decide
  · have := Nat.mod_lt x (show 0 < m by omega); omega
theorem left_wd (h l m : Nat) (w : World) : Calls Try.prog 73 #[wd h, wd l, wd m] w fun e w' => e = .returned (wd (rs (h % M * M + l % M) (m % M))) ∧ Below w.heap.size w w' := by
  have hm : m % M < M := Nat.mod_lt _ (by decide)
  have e : rs (rs (h % M) (m % M) % M * M + l % M) (m % M) = rs (h % M * M + l % M) (m % M) := by
    rw [Nat.mod_eq_of_lt (rs_lt hm)]
    unfold rs
    split
    · rfl
    · rw [← Nat.mod_add_mod, Nat.mod_mul_mod, Nat.mod_add_mod]
  rw [← e]
  refine left_walk h l m (h % M / (m % M)) _ _ _ w (Lib.hid fun w => ?_) (Lib.hid fun w => divide_wd (rs (h % M) (m % M)) l m ?_ w)
  · have := divide_wd 0 h m (by rw [Nat.zero_mod]; omega) w
    rw [Nat.zero_mod, Nat.zero_mul, Nat.zero_add] at this
    exact this
  · rw [Nat.mod_eq_of_lt (rs_lt hm)]
    by_cases h0 : m % M = 0
    · exact .inr h0
    · rw [rs_pos h0]
      exact .inl (Nat.mod_lt _ (by omega))

set_option maxHeartbeats 1000000 in
theorem mulMod_walk (a b m lo hi r : Nat) (w : World) (H1 : Hid (∀ w : World, Calls Try.prog 74 #[wd a, wd b] w fun e w' => e = .returned (.tuple #[wd lo, wd hi]) ∧ Below w.heap.size w w')) (H2 : Hid (∀ w : World, Calls Try.prog 73 #[wd hi, wd lo, wd m] w fun e w' => e = .returned (wd r) ∧ Below w.heap.size w w')) :
    Calls Try.prog 62 #[wd a, wd b, wd m] w fun e w' => e = .returned (wd r) ∧ Below w.heap.size w w' := by
  have hz := z4_wa
  have hsz := wa_size
  have hp1 := store_pair1
  have hp2 := store_pair2
  go_enter Try.func62, Try.ntmps62
  go_upto_region 1 with fail
  have f3 : ((((w.alloc (.cells (wa a) 24)).alloc (.cells (wa b) 24)).alloc (.cells (wa m) 24)).alloc (.cells (wa 0) 24)).heap[w.heap.size]? = some (.cells (wa a) 24) := blk_alloc (blk_alloc (blk_alloc (blk_new _ rfl)))
  have f4 : ((((w.alloc (.cells (wa a) 24)).alloc (.cells (wa b) 24)).alloc (.cells (wa m) 24)).alloc (.cells (wa 0) 24)).heap[w.heap.size + 1]? = some (.cells (wa b) 24) := blk_alloc (blk_alloc (blk_new _ (by simp)))
  have f5 : ((((w.alloc (.cells (wa a) 24)).alloc (.cells (wa b) 24)).alloc (.cells (wa m) 24)).alloc (.cells (wa 0) 24)).heap[w.heap.size + 1 + 1]? = some (.cells (wa m) 24) := blk_alloc (blk_new _ (by simp))
  have f6 : ((((w.alloc (.cells (wa a) 24)).alloc (.cells (wa b) 24)).alloc (.cells (wa m) 24)).alloc (.cells (wa 0) 24)).heap[w.heap.size + 1 + 1 + 1]? = some (.cells (wa 0) 24) := blk_new _ (by simp)
  have bW : Below w.heap.size w ((((w.alloc (.cells (wa a) 24)).alloc (.cells (wa b) 24)).alloc (.cells (wa m) 24)).alloc (.cells (wa 0) 24)) := (((((Below.refl _ _).alloc (Nat.le_refl _) _).alloc (by simp <;> omega) _).alloc (by simp <;> omega) _).alloc (by simp <;> omega) _)
  have sW : w.heap.size + 4 ≤ ((((w.alloc (.cells (wa a) 24)).alloc (.cells (wa b) 24)).alloc (.cells (wa m) 24)).alloc (.cells (wa 0) 24)).heap.size := by simp
  generalize ((((w.alloc (.cells (wa a) 24)).alloc (.cells (wa b) 24)).alloc (.cells (wa m) 24)).alloc (.cells (wa 0) 24)) = W at *
  go_wp2_with (refine wpList_load_row rfl 24 _ rfl _ rfl 24 _ (0, 0) _ (by assumption) Try.underlying24 rfl Try.infoWa ?_)
  refine (H1.out _).mono ?_
  rintro e w3 ⟨rfl, b1⟩
  replace f3 := Below.stays b1 f3
  replace f4 := Below.stays b1 f4
  replace f5 := Below.stays b1 f5
  replace f6 := Below.stays b1 f6
  replace bW := bW.trans (b1.mono bW.size)
  replace sW := Nat.le_trans sW b1.size
  clear b1
  go_upto_region 2 with fail
  replace f5 : ((w3.alloc (.cells (wa lo) 24)).alloc (.cells (wa hi) 24)).heap[w.heap.size + 1 + 1]? = some (.cells (wa m) 24) := blk_alloc (blk_alloc f5)
  replace f6 : ((w3.alloc (.cells (wa lo) 24)).alloc (.cells (wa hi) 24)).heap[w.heap.size + 1 + 1 + 1]? = some (.cells (wa 0) 24) := blk_alloc (blk_alloc f6)
  have f7 : ((w3.alloc (.cells (wa lo) 24)).alloc (.cells (wa hi) 24)).heap[w3.heap.size]? = some (.cells (wa lo) 24) := blk_alloc (blk_new _ rfl)
  have f8 : ((w3.alloc (.cells (wa lo) 24)).alloc (.cells (wa hi) 24)).heap[w3.heap.size + 1]? = some (.cells (wa hi) 24) := blk_new _ (by simp)
  replace bW : Below w.heap.size w ((w3.alloc (.cells (wa lo) 24)).alloc (.cells (wa hi) 24)) := (bW.alloc (by omega) _).alloc (by simp; omega) _
  clear f3 f4 hp1 hp2
  generalize ((w3.alloc (.cells (wa lo) 24)).alloc (.cells (wa hi) 24)) = w4 at *
  generalize w3.heap.size = b7 at *
  go_wp2_with (refine wpList_load_row rfl 24 _ rfl _ rfl 24 _ (0, 0) _ (by assumption) Try.underlying24 rfl Try.infoWa ?_)
  refine (H2.out _).mono ?_
  rintro e w5 ⟨rfl, b1⟩
  replace f6 := Below.stays b1 f6
  replace bW := bW.trans (b1.mono bW.size)
  go_wp2_with (refine wpList_store_row rfl 24 (.tmp 6) _ rfl _ _ (wa r) rfl rfl f6 Try.infoWa rfl wa_one ?_)
  have e6 := word_cells (blk_row (c' := wa r) f6)
  exact bodyPost_ret (v := wd r) (by simp [results, Try.results62, go_sem, e6, fold_wa]) rfl ⟨rfl, below_setRow bW (by omega) _⟩

set_option maxHeartbeats 1000000 in
theorem addMod_walk (a b m hi r : Nat) (c : Int) (w : World) (H1 : Hid (∀ w : World, Calls Try.prog 48 #[wd (a + b), wd a] w fun e w' => e = .returned (.int .i64 c) ∧ Below w.heap.size w w')) (h1 : Hid (c < 0 → hi = 1)) (h0 : Hid (0 ≤ c → hi = 0)) (H2 : Hid (∀ w : World, Calls Try.prog 73 #[wd hi, wd (a + b), wd m] w fun e w' => e = .returned (wd r) ∧ Below w.heap.size w w')) :
    Calls Try.prog 61 #[wd a, wd b, wd m] w fun e w' => e = .returned (wd r) ∧ Below w.heap.size w w' := by
  have hz := z4_wa
  have hsz := wa_size
  have hs := store_new0
  go_enter Try.func61, Try.ntmps61
  go_upto_region 1 with fail
  have f3 : ((((w.alloc (.cells (wa a) 24)).alloc (.cells (wa b) 24)).alloc (.cells (wa m) 24)).alloc (.cells (wa 0) 24)).heap[w.heap.size]? = some (.cells (wa a) 24) := blk_alloc (blk_alloc (blk_alloc (blk_new _ rfl)))
  have f4 : ((((w.alloc (.cells (wa a) 24)).alloc (.cells (wa b) 24)).alloc (.cells (wa m) 24)).alloc (.cells (wa 0) 24)).heap[w.heap.size + 1]? = some (.cells (wa b) 24) := blk_alloc (blk_alloc (blk_new _ (by simp)))
  have f5 : ((((w.alloc (.cells (wa a) 24)).alloc (.cells (wa b) 24)).alloc (.cells (wa m) 24)).alloc (.cells (wa 0) 24)).heap[w.heap.size + 1 + 1]? = some (.cells (wa m) 24) := blk_alloc (blk_new _ (by simp))
  have f6 : ((((w.alloc (.cells (wa a) 24)).alloc (.cells (wa b) 24)).alloc (.cells (wa m) 24)).alloc (.cells (wa 0) 24)).heap[w.heap.size + 1 + 1 + 1]? = some (.cells (wa 0) 24) := blk_new _ (by simp)
  have bW : Below w.heap.size w ((((w.alloc (.cells (wa a) 24)).alloc (.cells (wa b) 24)).alloc (.cells (wa m) 24)).alloc (.cells (wa 0) 24)) := (((((Below.refl _ _).alloc (Nat.le_refl _) _).alloc (by simp <;> omega) _).alloc (by simp <;> omega) _).alloc (by simp <;> omega) _)
  have sW : w.heap.size + 4 ≤ ((((w.alloc (.cells (wa a) 24)).alloc (.cells (wa b) 24)).alloc (.cells (wa m) 24)).alloc (.cells (wa 0) 24)).heap.size := by simp
  generalize ((((w.alloc (.cells (wa a) 24)).alloc (.cells (wa b) 24)).alloc (.cells (wa m) 24)).alloc (.cells (wa 0) 24)) = W at *
  go_wp2_with (refine wpList_load_row rfl 24 _ rfl _ rfl 24 _ (0, 0) _ (by assumption) Try.underlying24 rfl Try.infoWa ?_)
  refine (add_wd a b _).mono ?_
  rintro e w1 ⟨rfl, b1⟩
  replace f3 := Below.stays b1 f3
  replace f4 := Below.stays b1 f4
  replace f5 := Below.stays b1 f5
  replace f6 := Below.stays b1 f6
  replace bW := bW.trans (b1.mono bW.size)
  replace sW := Nat.le_trans sW b1.size
  clear b1
  go_upto_region 2 with fail
  replace f3 := blk_alloc (o' := .cells (wa (a + b)) 24) f3
  replace f4 := blk_alloc (o' := .cells (wa (a + b)) 24) f4
  replace f5 := blk_alloc (o' := .cells (wa (a + b)) 24) f5
  replace f6 := blk_alloc (o' := .cells (wa (a + b)) 24) f6
  have f7 : (w1.alloc (.cells (wa (a + b)) 24)).heap[w1.heap.size]? = some (.cells (wa (a + b)) 24) := heap_alloc_new _ _
  replace bW : Below w.heap.size w (w1.alloc (.cells (wa (a + b)) 24)) := bW.alloc (by omega) _
  have sb7 : w1.heap.size + 1 ≤ (w1.alloc (.cells (wa (a + b)) 24)).heap.size := by simp
  generalize (w1.alloc (.cells (wa (a + b)) 24)) = w2 at *
  generalize w1.heap.size = b7 at *
  have lb7 := sW
  replace sW := Nat.le_trans (Nat.le_succ_of_le sW) sb7
  go_upto_region 3 with fail
  have ub7 : b7 + 1 ≤ w2.heap.size := (Array.getElem?_eq_some_iff.1 f7).1
  replace f3 := blk_alloc (o' := .cells (wa 0) 24) f3
  replace f4 := blk_alloc (o' := .cells (wa 0) 24) f4
  replace f5 := blk_alloc (o' := .cells (wa 0) 24) f5
  replace f6 := blk_alloc (o' := .cells (wa 0) 24) f6
  replace f7 := blk_alloc (o' := .cells (wa 0) 24) f7
  have f8 : (w2.alloc (.cells (wa 0) 24)).heap[w2.heap.size]? = some (.cells (wa 0) 24) := heap_alloc_new _ _
  replace bW : Below w.heap.size w (w2.alloc (.cells (wa 0) 24)) := bW.alloc (by omega) _
  have sb8 : w2.heap.size + 1 ≤ (w2.alloc (.cells (wa 0) 24)).heap.size := by simp
  generalize (w2.alloc (.cells (wa 0) 24)) = w3 at *
  generalize w2.heap.size = b8 at *
  have lb8 := sW
  replace sW := Nat.le_trans (Nat.le_succ_of_le sW) sb8
  clear hz hs hsz
  go_wp2_with (refine wpList_load_row rfl 24 _ rfl _ rfl 24 _ (0, 0) _ (by assumption) Try.underlying24 rfl Try.infoWa ?_)
  refine (H1.out _).mono ?_
  rintro e w4 ⟨rfl, b1⟩
  replace f3 := Below.stays b1 f3
  replace f4 := Below.stays b1 f4
  replace f5 := Below.stays b1 f5
  replace f6 := Below.stays b1 f6
  replace f7 := Below.stays b1 f7
  replace f8 := Below.stays b1 f8
  replace bW := bW.trans (b1.mono bW.size)
  replace sW := Nat.le_trans sW b1.size
  clear b1
  go_upto_if 15 with fail
  go_cut [] (fun wx => wx.heap[w.heap.size + 1 + 1]? = some (.cells (wa m) 24) ∧ wx.heap[w.heap.size + 1 + 1 + 1]? = some (.cells (wa 0) 24) ∧ wx.heap[b7]? = some (.cells (wa (a + b)) 24) ∧ wx.heap[b8]? = some (.cells (wa hi) 24) ∧ Below w.heap.size w wx)
  case first =>
    by_cases hc : c < 0
    · obtain rfl := h1.out hc
      go_wp2_with fail
      refine (of_wd 1 _ (by decide)).mono ?_
      rintro e w5 ⟨rfl, b1⟩
      replace f5 := Below.stays b1 f5
      replace f6 := Below.stays b1 f6
      replace f7 := Below.stays b1 f7
      replace f8 := Below.stays b1 f8
      replace bW := bW.trans (b1.mono bW.size)
      go_wp2_with (refine wpList_store_row rfl 24 (.tmp 8) _ rfl _ _ (wa 1) rfl rfl f8 Try.infoWa rfl wa_one ?_)
      simp only [Act.put]
      go_wp2_with fail
      go_meet
      exact ⟨blk_row_other f5 (by omega), blk_row_other f6 (by omega), blk_row_other f7 (by omega), blk_row f8, below_setRow bW (by omega) _⟩
    · obtain rfl := h0.out (by omega)
      go_wp2_with fail
      go_meet
      exact ⟨f5, f6, f7, f8, bW⟩
  case rest =>
    obtain ⟨f5, f6, f7, f8, bW⟩ := hcut
    go_wp2_with (refine wpList_load_row rfl 24 _ rfl _ rfl 24 _ (0, 0) _ (by assumption) Try.underlying24 rfl Try.infoWa ?_)
    refine (H2.out _).mono ?_
    rintro e w5 ⟨rfl, b1⟩
    replace f6 := Below.stays b1 f6
    replace bW := bW.trans (b1.mono bW.size)
    go_wp2_with (refine wpList_store_row rfl 24 (.tmp 6) _ rfl _ _ (wa r) rfl rfl f6 Try.infoWa rfl wa_one ?_)
    have e6 := word_cells (blk_row (c' := wa r) f6)
    exact bodyPost_ret (v := wd r) (by simp [results, Try.results61, go_sem, e6, fold_wa]) rfl ⟨rfl, below_setRow bW (by omega) _⟩
end Go.Proofs.Ytdpbjdecbilaeaa
/- What the functions Product and Exp of package wide do; all older memory is as it was. -/
namespace Go.Proofs.Ytdpbjdecbilaeaa
open Go.RowKit SmWord
set_option maxRecDepth 100000

theorem index_4 (x0 x1 x2 x3 : Value) (w : World) :
    (Instr.index 24 (.agg #[x0, x1, x2, x3]) (.int .i64 0)).run Try.prog w = .ok x0 w ∧ (Instr.index 24 (.agg #[x0, x1, x2, x3]) (.int .i64 1)).run Try.prog w = .ok x1 w ∧
    (Instr.index 24 (.agg #[x0, x1, x2, x3]) (.int .i64 2)).run Try.prog w = .ok x2 w ∧ (Instr.index 24 (.agg #[x0, x1, x2, x3]) (.int .i64 3)).run Try.prog w = .ok x3 w :=
  ⟨by kernel_rfl, by kernel_rfl, by kernel_rfl, by kernel_rfl⟩
theorem index_wa (b k : Nat) (hk : k < 4) (w : World) : (Instr.index 24 (.agg (wa b)) (.int .i64 (k : Int))).run Try.prog w = .ok (.int .u64 ((lb b k : Nat) : Int)) w := by
  have e := wa_lb b k hk
  have h := index_4 (.int .u64 ((l0 b : Nat) : Int)) (.int .u64 ((l1 b : Nat) : Int)) (.int .u64 ((l2 b : Nat) : Int)) (.int .u64 ((l3 b : Nat) : Int)) w
  have : k = 0 ∨ k = 1 ∨ k = 2 ∨ k = 3 := by omega
  rcases this with rfl | rfl | rfl | rfl
  · rw [← Option.some.inj e]; exact h.1
  · rw [← Option.some.inj e]; exact h.2.1
  · rw [← Option.some.inj e]; exact h.2.2.1
  · rw [← Option.some.inj e]; exact h.2.2.2

set_option maxHeartbeats 4000000 in
theorem product_walk (a b : Nat) (lo hi sk tk : Nat → Nat) (w : World) (h0 : Hid (lo 0 = 0)) (g0 : Hid (hi 0 = 0))
    (Ha : Hid (∀ k, k < 4 → ∀ w : World, Calls Try.prog 79 #[wd (hi k), wd a, .int .u64 ((lb b k : Nat) : Int)] w fun e w' => e = .returned (.tuple #[wd (sk k), .int .u64 ((tk k : Nat) : Int)]) ∧ Below w.heap.size w w'))
    (Hlo : Hid (∀ k, k < 4 → (wa (lo k)).setIfInBounds k (.int .u64 ((l0 (sk k) : Nat) : Int)) = wa (lo (k + 1))))
    (Hhi : Hid (∀ k, k < 4 → ((((wa 0).setIfInBounds 0 (Value.int .u64 ((l1 (sk k) : Nat) : Int))).setIfInBounds 1 (.int .u64 ((l2 (sk k) : Nat) : Int))).setIfInBounds 2 (.int .u64 ((l3 (sk k) : Nat) : Int))).setIfInBounds 3 (.int .u64 ((tk k : Nat) : Int)) = wa (hi (k + 1)))) :
    Calls Try.prog 74 #[wd a, wd b] w fun e w' => e = .returned (.tuple #[wd (lo 4), wd (hi 4)]) ∧ Below w.heap.size w w' := by
  have hz := z4_wa
  have hsz := wa_size
  go_enter Try.func74, Try.ntmps74
  go_upto_region 2 with fail
  have f2 : ((((((w.alloc (.cells (wa a) 24)).alloc (.cells (wa b) 24)).alloc (.cells (wa 0) 24)).alloc (.cells (wa 0) 24)).alloc (.cells (wa 0) 24)).alloc (.cells (wa 0) 24)).heap[w.heap.size]? = some (.cells (wa a) 24) := blk_alloc (blk_alloc (blk_alloc (blk_alloc (blk_alloc (blk_new _ rfl)))))
  have f3 : ((((((w.alloc (.cells (wa a) 24)).alloc (.cells (wa b) 24)).alloc (.cells (wa 0) 24)).alloc (.cells (wa 0) 24)).alloc (.cells (wa 0) 24)).alloc (.cells (wa 0) 24)).heap[w.heap.size + 1]? = some (.cells (wa b) 24) := blk_alloc (blk_alloc (blk_alloc (blk_alloc (blk_new _ (by simp)))))
  have f4 : ((((((w.alloc (.cells (wa a) 24)).alloc (.cells (wa b) 24)).alloc (.cells (wa 0) 24)).alloc (.cells (wa 0) 24)).alloc (.cells (wa 0) 24)).alloc (.cells (wa 0) 24)).heap[w.heap.size + 1 + 1]? = some (.cells (wa 0) 24) := blk_alloc (blk_alloc (blk_alloc (blk_new _ (by simp))))
  have f5 : ((((((w.alloc (.cells (wa a) 24)).alloc (.cells (wa b) 24)).alloc (.cells (wa 0) 24)).alloc (.cells (wa 0) 24)).alloc (.cells (wa 0) 24)).alloc (.cells (wa 0) 24)).heap[w.heap.size + 1 + 1 + 1]? = some (.cells (wa 0) 24) := blk_alloc (blk_alloc (blk_new _ (by simp)))
  have f6 : ((((((w.alloc (.cells (wa a) 24)).alloc (.cells (wa b) 24)).alloc (.cells (wa 0) 24)).alloc (.cells (wa 0) 24)).alloc (.cells (wa 0) 24)).alloc (.cells (wa 0) 24)).heap[w.heap.size + 1 + 1 + 1 + 1]? = some (.cells (wa 0) 24) := blk_alloc (blk_new _ (by simp))
  have f7 : ((((((w.alloc (.cells (wa a) 24)).alloc (.cells (wa b) 24)).alloc (.cells (wa 0) 24)).alloc (.cells (wa 0) 24)).alloc (.cells (wa 0) 24)).alloc (.cells (wa 0) 24)).heap[w.heap.size + 1 + 1 + 1 + 1 + 1]? = some (.cells (wa 0) 24) := blk_new _ (by simp)
  have bW : Below w.heap.size w ((((((w.alloc (.cells (wa a) 24)).alloc (.cells (wa b) 24)).alloc (.cells (wa 0) 24)).alloc (.cells (wa 0) 24)).alloc (.cells (wa 0) 24)).alloc (.cells (wa 0) 24)) := (((((((Below.refl _ _).alloc (Nat.le_refl _) _).alloc (by simp <;> omega) _).alloc (by simp <;> omega) _).alloc (by simp <;> omega) _).alloc (by simp <;> omega) _).alloc (by simp <;> omega) _)
  have sW : w.heap.size + 6 ≤ ((((((w.alloc (.cells (wa a) 24)).alloc (.cells (wa b) 24)).alloc (.cells (wa 0) 24)).alloc (.cells (wa 0) 24)).alloc (.cells (wa 0) 24)).alloc (.cells (wa 0) 24)).heap.size := by simp
  generalize ((((((w.alloc (.cells (wa a) 24)).alloc (.cells (wa b) 24)).alloc (.cells (wa 0) 24)).alloc (.cells (wa 0) 24)).alloc (.cells (wa 0) 24)).alloc (.cells (wa 0) 24)) = W at *
  go_wp2_with (refine wpList_load_row rfl 24 _ rfl _ rfl 24 _ (0, 0) _ (by assumption) Try.underlying24 rfl Try.infoWa ?_)
  go_loopw [12] (fun i wr => ∃ k : Nat, k ≤ 4 ∧ i = .int .i64 (k : Int) ∧ wr.heap[w.heap.size]? = some (.cells (wa a) 24) ∧ wr.heap[w.heap.size + 1 + 1]? = some (.cells (wa 0) 24) ∧ wr.heap[w.heap.size + 1 + 1 + 1]? = some (.cells (wa 0) 24) ∧ wr.heap[w.heap.size + 1 + 1 + 1 + 1]? = some (.cells (wa (lo k)) 24) ∧ wr.heap[w.heap.size + 1 + 1 + 1 + 1 + 1]? = some (.cells (wa (hi k)) 24) ∧ Below w.heap.size w wr) (fun i _ => 4 - (intOf i).toNat)
  case atStart => exact ⟨0, Nat.zero_le _, rfl, f2, f4, f5, by rw [h0.out]; exact f6, by rw [g0.out]; exact f7, bW⟩
  case round =>
    clear f2 f3 f4 f5 f6 f7 bW sW
    obtain ⟨k, hk, rfl, f2, f4, f5, f6, f7, bW⟩ := hrel
    by_cases hlt : k < 4
    · have hi0 := fun w => index_wa b k hlt w
      go_wp2_with (refine wpList_load_row rfl 24 _ rfl _ rfl 24 _ (0, 0) _ (by assumption) Try.underlying24 rfl Try.infoWa ?_)
      clear hi0
      refine (Ha.out k hlt _).mono ?_
      rintro e w1 ⟨rfl, b1⟩
      replace f2 := Below.stays b1 f2
      replace f4 := Below.stays b1 f4
      replace f5 := Below.stays b1 f5
      replace f6 := Below.stays b1 f6
      replace f7 := Below.stays b1 f7
      replace bW := bW.trans (b1.mono bW.size)
      clear b1
      go_upto_region 7 with (refine wpList_store_row rfl 24 (.tmp 7) _ rfl _ _ (wa (sk k)) rfl rfl f7 Try.infoWa rfl wa_one ?_)
      replace f2 := blk_row_other (b := w.heap.size + 1 + 1 + 1 + 1 + 1) (c' := wa (sk k)) f2 (by omega)
      replace f4 := blk_row_other (b := w.heap.size + 1 + 1 + 1 + 1 + 1) (c' := wa (sk k)) f4 (by omega)
      replace f5 := blk_row_other (b := w.heap.size + 1 + 1 + 1 + 1 + 1) (c' := wa (sk k)) f5 (by omega)
      replace f6 := blk_row_other (b := w.heap.size + 1 + 1 + 1 + 1 + 1) (c' := wa (sk k)) f6 (by omega)
      replace f7 := blk_row (c' := wa (sk k)) f7
      replace bW : Below w.heap.size w (w1.setRow (w.heap.size + 1 + 1 + 1 + 1 + 1) (wa (sk k))) := below_setRow bW (by omega) _
      generalize w1.setRow (w.heap.size + 1 + 1 + 1 + 1 + 1) (wa (sk k)) = w2 at *
      have c7 := word_cells f7
      have c6 := blk_cell f6 (wa_lb (lo k) k hlt)
      have d6 := blk_frozen (j := k) f6
      go_upto_region 8 with fail
      replace f2 := blk_other (b := w.heap.size + 1 + 1 + 1 + 1) (j := k) f2 (by omega) (.int .u64 ((l0 (sk k) : Nat) : Int))
      replace f4 := blk_other (b := w.heap.size + 1 + 1 + 1 + 1) (j := k) f4 (by omega) (.int .u64 ((l0 (sk k) : Nat) : Int))
      replace f5 := blk_other (b := w.heap.size + 1 + 1 + 1 + 1) (j := k) f5 (by omega) (.int .u64 ((l0 (sk k) : Nat) : Int))
      replace f7 := blk_other (b := w.heap.size + 1 + 1 + 1 + 1) (j := k) f7 (by omega) (.int .u64 ((l0 (sk k) : Nat) : Int))
      replace f6 := blk_set (j := k) f6 (.int .u64 ((l0 (sk k) : Nat) : Int))
      replace bW : Below w.heap.size w (w2.setCell ⟨w.heap.size + 1 + 1 + 1 + 1, k, none⟩ (.int .u64 ((l0 (sk k) : Nat) : Int))) := bW.setCell (by show _ ≤ w.heap.size + 1 + 1 + 1 + 1; omega) _
      rw [Hlo.out k hlt] at f6
      clear c7 c6 d6
      generalize w2.setCell ⟨w.heap.size + 1 + 1 + 1 + 1, k, none⟩ (.int .u64 ((l0 (sk k) : Nat) : Int)) = w3 at *
      have c7 := word_cells f7
      have fo := Hhi.out k hlt
      go_wp2_with (refine wpList_store_row rfl 24 (.tmp 7) _ rfl _ _ (wa (hi (k + 1))) rfl rfl f7 Try.infoWa rfl wa_one ?_)
      exact ⟨⟨k + 1, by omega, by go_num, blk_row_other f2 (by omega), blk_row_other f4 (by omega), blk_row_other f5 (by omega), blk_row_other f6 (by omega), blk_row f7, below_setRow bW (by omega) _⟩, by simp only [intOf]; omega⟩
    · obtain rfl : k = 4 := by omega
      clear hz
      have d6 := word_cells f6
      have d7 := word_cells f7
      have d7' := word_cells (blk_row_other (w := wr.drew) (b := w.heap.size + 1 + 1) (c' := wa (lo 4)) f7 (by omega))
      have fo := fold_wa
      have k1 := store_old (w := wr.drew) (m := lo 4) f4
      have k2 := store_old (w := wr.drew.setRow (w.heap.size + 1 + 1) (wa (lo 4))) (m := hi 4) (blk_row_other (w := wr.drew) (b := w.heap.size + 1 + 1) (c' := wa (lo 4)) f5 (by omega))
      go_wp2_with fail
      go_region
      all_goals
        have e4 := word_cells (blk_row_other (b := w.heap.size + 1 + 1 + 1) (c' := wa (hi 4)) (blk_row (w := wr.drew) (c' := wa (lo 4)) f4) (by omega))
        have e5 := word_cells (blk_row (c' := wa (hi 4)) (blk_row_other (w := wr.drew) (b := w.heap.size + 1 + 1) (c' := wa (lo 4)) f5 (by omega)))
        clear k1 k2 d6 d7 d7'
        go_wp2_with fail
        exact bodyPost_ret (v := .tuple #[wd (lo 4), wd (hi 4)]) (by simp [results, Try.results74, go_sem, e4, e5, fo]) rfl ⟨rfl, below_setRow (below_setRow bW.drew (by omega) _) (by omega) _⟩

set_option maxHeartbeats 4000000 in
theorem exp_walk (a n L : Nat) (pw : Nat → Nat) (w : World) (_hL : L ≤ 256) (h0 : Hid (pw L = 1))
    (Hl : Hid (∀ w : World, Calls Try.prog 70 #[wd n] w fun e w' => e = .returned (.int .i64 (L : Int)) ∧ Below w.heap.size w w'))
    (Hbit : Hid (∀ j, j < L → ∃ p : Bool, (∀ w : World, Calls Try.prog 71 #[wd n, .int .u64 (j : Int)] w fun e w' => e = .returned (.bool p) ∧ Below w.heap.size w w') ∧ (p = true → pw j % M = (pw (j + 1) * pw (j + 1) * a) % M) ∧ (p = false → pw j % M = (pw (j + 1) * pw (j + 1)) % M))) :
    Calls Try.prog 45 #[wd a, wd n] w fun e w' => e = .returned (wd (pw 0)) ∧ Below w.heap.size w w' := by
  have hz := z4_wa
  have hs := store_new0
  have hsz := wa_size
  go_enter Try.func45, Try.ntmps45
  go_upto_region 1 with fail
  have f2 : (((w.alloc (.cells (wa a) 24)).alloc (.cells (wa n) 24)).alloc (.cells (wa 0) 24)).heap[w.heap.size]? = some (.cells (wa a) 24) := blk_alloc (blk_alloc (blk_new _ rfl))
  have f3 : (((w.alloc (.cells (wa a) 24)).alloc (.cells (wa n) 24)).alloc (.cells (wa 0) 24)).heap[w.heap.size + 1]? = some (.cells (wa n) 24) := blk_alloc (blk_new _ (by simp))
  have f4 : (((w.alloc (.cells (wa a) 24)).alloc (.cells (wa n) 24)).alloc (.cells (wa 0) 24)).heap[w.heap.size + 1 + 1]? = some (.cells (wa 0) 24) := blk_new _ (by simp)
  have bW : Below w.heap.size w (((w.alloc (.cells (wa a) 24)).alloc (.cells (wa n) 24)).alloc (.cells (wa 0) 24)) := ((((Below.refl _ _).alloc (Nat.le_refl _) _).alloc (by simp <;> omega) _).alloc (by simp <;> omega) _)
  have sW : w.heap.size + 3 ≤ (((w.alloc (.cells (wa a) 24)).alloc (.cells (wa n) 24)).alloc (.cells (wa 0) 24)).heap.size := by simp
  generalize (((w.alloc (.cells (wa a) 24)).alloc (.cells (wa n) 24)).alloc (.cells (wa 0) 24)) = W at *
  go_wp2_with fail
  refine (of_wd 1 _ (by decide)).mono ?_
  rintro e w1 ⟨rfl, b1⟩
  replace f2 := Below.stays b1 f2
  replace f3 := Below.stays b1 f3
  replace f4 := Below.stays b1 f4
  replace bW := bW.trans (b1.mono bW.size)
  replace sW := Nat.le_trans sW b1.size
  clear b1
  go_upto_region 2 with fail
  replace f2 := blk_alloc (o' := .cells (wa 1) 24) f2
  replace f3 := blk_alloc (o' := .cells (wa 1) 24) f3
  replace f4 := blk_alloc (o' := .cells (wa 1) 24) f4
  have f5 : (w1.alloc (.cells (wa 1) 24)).heap[w1.heap.size]? = some (.cells (wa 1) 24) := heap_alloc_new _ _
  replace bW : Below w.heap.size w (w1.alloc (.cells (wa 1) 24)) := bW.alloc (by omega) _
  have sb5 : w1.heap.size + 1 ≤ (w1.alloc (.cells (wa 1) 24)).heap.size := by simp
  generalize (w1.alloc (.cells (wa 1) 24)) = w2 at *
  generalize w1.heap.size = b5 at *
  have lb5 := sW
  replace sW := Nat.le_trans (Nat.le_succ_of_le sW) sb5
  clear hz hs hsz
  go_wp2_with (refine wpList_load_row rfl 24 _ rfl _ rfl 24 _ (0, 0) _ (by assumption) Try.underlying24 rfl Try.infoWa ?_)
  refine (Hl.out _).mono ?_
  rintro e w3 ⟨rfl, b1⟩
  replace f2 := Below.stays b1 f2
  replace f3 := Below.stays b1 f3
  replace f4 := Below.stays b1 f4
  replace f5 := Below.stays b1 f5
  replace bW := bW.trans (b1.mono bW.size)
  replace sW := Nat.le_trans sW b1.size
  clear b1
  go_wp2_with fail
  go_loopw [6] (fun i wr => ∃ j : Nat, j ≤ L ∧ i = .int .i64 ((j : Int) - 1) ∧ wr.heap[w.heap.size]? = some (.cells (wa a) 24) ∧ wr.heap[w.heap.size + 1]? = some (.cells (wa n) 24) ∧ wr.heap[w.heap.size + 1 + 1]? = some (.cells (wa 0) 24) ∧ wr.heap[b5]? = some (.cells (wa (pw j)) 24) ∧ Below w.heap.size w wr) (fun i _ => (intOf i + 1).toNat)
  case atStart => exact ⟨L, Nat.le_refl _, rfl, f2, f3, f4, by rw [h0.out]; exact f5, bW⟩
  case round =>
    clear f2 f3 f4 f5 bW sW
    obtain ⟨j, hj, rfl, f2, f3, f4, f5, bW⟩ := hrel
    cases j with
    | zero =>
      go_wp2_with (first | (refine wpList_load_row rfl 24 _ rfl _ rfl 24 _ (0, 0) _ (by assumption) Try.underlying24 rfl Try.infoWa ?_) | (refine wpList_store_row rfl 24 (.tmp 4) _ rfl _ _ (wa (pw 0)) rfl rfl f4 Try.infoWa rfl wa_one ?_))
      have e4 := word_cells (blk_row (c' := wa (pw 0)) f4)
      exact bodyPost_ret (v := wd (pw 0)) (by simp [results, Try.results45, go_sem, e4, fold_wa]) rfl ⟨rfl, below_setRow bW (by omega) _⟩
    | succ j =>
      rw [show (((j + 1 : Nat) : Int) - 1) = (j : Int) by omega]
      go_wp2_with (refine wpList_load_row rfl 24 _ rfl _ rfl 24 _ (0, 0) _ (by assumption) Try.underlying24 rfl Try.infoWa ?_)
      refine (mul_wd (pw (j + 1)) (pw (j + 1)) _).mono ?_
      rintro e w4 ⟨rfl, b1⟩
      replace f2 := Below.stays b1 f2
      replace f3 := Below.stays b1 f3
      replace f4 := Below.stays b1 f4
      replace f5 := Below.stays b1 f5
      replace bW := bW.trans (b1.mono bW.size)
      clear b1
      go_upto_region 6 with (refine wpList_store_row rfl 24 (.tmp 5) _ rfl _ _ (wa (pw (j + 1) * pw (j + 1))) rfl rfl f5 Try.infoWa rfl wa_one ?_)
      simp only [Act.put]
      replace f2 := blk_row_other (b := b5) (c' := wa (pw (j + 1) * pw (j + 1))) f2 (by omega)
      replace f3 := blk_row_other (b := b5) (c' := wa (pw (j + 1) * pw (j + 1))) f3 (by omega)
      replace f4 := blk_row_other (b := b5) (c' := wa (pw (j + 1) * pw (j + 1))) f4 (by omega)
      replace f5 := blk_row (c' := wa (pw (j + 1) * pw (j + 1))) f5
      replace bW : Below w.heap.size w (w4.setRow b5 (wa (pw (j + 1) * pw (j + 1)))) := below_setRow bW (by omega) _
      generalize w4.setRow b5 (wa (pw (j + 1) * pw (j + 1))) = w5 at *
      go_wp2_with (refine wpList_load_row rfl 24 _ rfl _ rfl 24 _ (0, 0) _ (by assumption) Try.underlying24 rfl Try.infoWa ?_)
      obtain ⟨p, Hb, hpt, hpf⟩ := Hbit.out j (by omega)
      have HB := Lib.hid Hb
      clear Hb
      cases p
      · have e := hpf rfl
        have HE := Lib.hid e
        clear e hpt hpf
        refine (HB.out _).mono ?_
        rintro e w6 ⟨rfl, b1⟩
        go_wp2_with fail
        exact ⟨⟨j, by omega, rfl, Below.stays b1 f2, Below.stays b1 f3, Below.stays b1 f4, by rw [wa_congr HE.out]; exact Below.stays b1 f5, bW.trans (b1.mono bW.size)⟩, by simp only [intOf]; omega⟩
      · have e := hpt rfl
        have HE := Lib.hid e
        clear e hpt hpf
        refine (HB.out _).mono ?_
        rintro e w6 ⟨rfl, b1⟩
        replace f2 := Below.stays b1 f2
        replace f3 := Below.stays b1 f3
        replace f4 := Below.stays b1 f4
        replace f5 := Below.stays b1 f5
        replace bW := bW.trans (b1.mono bW.size)
        clear b1
        go_wp2_with (refine wpList_load_row rfl 24 _ rfl _ rfl 24 _ (0, 0) _ (by assumption) Try.underlying24 rfl Try.infoWa ?_)
        refine (mul_wd (pw (j + 1) * pw (j + 1)) a _).mono ?_
        rintro e w7 ⟨rfl, b1⟩
        replace f2 := Below.stays b1 f2
        replace f3 := Below.stays b1 f3
        replace f4 := Below.stays b1 f4
        replace f5 := Below.stays b1 f5
        replace bW := bW.trans (b1.mono bW.size)
        clear b1
        go_wp2_with (refine wpList_store_row rfl 24 (.tmp 5) _ rfl _ _ (wa (pw (j + 1) * pw (j + 1) * a)) rfl rfl f5 Try.infoWa rfl wa_one ?_)
        exact ⟨⟨j, by omega, rfl, blk_row_other f2 (by omega), blk_row_other f3 (by omega), blk_row_other f4 (by omega), by rw [wa_congr HE.out]; exact blk_row f5, below_setRow bW (by omega) _⟩, by simp only [intOf]; omega⟩
end Go.Proofs.Ytdpbjdecbilaeaa
/- What the functions Product, MulMod, AddMod and Exp of package wide do, in numbers; all older memory is as it was. -/
namespace Go.Proofs.Ytdpbjdecbilaeaa
open Go.RowKit SmWord
set_option maxRecDepth 100000

namespace SmWord
theorem part_add (b n d k i : Nat) (hb : 1 < b) (hn : n < b ^ k) (hd : d < b) : (n + d * b ^ k) / b ^ i % b = if i = k then d else n / b ^ i % b := by
  have hp : 0 < b := by omega
  rcases Nat.lt_trichotomy i k with h | h | h
  · rw [if_neg (by omega)]
    have e : b ^ k = b ^ i * (b * b ^ (k - i - 1)) := by rw [← Nat.pow_succ', ← Nat.pow_add]; congr 1; omega
    have e2 : d * (b ^ i * (b * b ^ (k - i - 1))) = b ^ i * (b * (d * b ^ (k - i - 1))) := by rw [Nat.mul_left_comm, Nat.mul_left_comm d]
    rw [e, e2, Nat.add_mul_div_left _ _ (Nat.pow_pos hp), Nat.add_mul_mod_self_left]
  · subst h
    rw [if_pos rfl, Nat.add_mul_div_right _ _ (Nat.pow_pos hp), Nat.div_eq_of_lt hn, Nat.zero_add, Nat.mod_eq_of_lt hd]
  · rw [if_neg (by omega)]
    have h1 : n + d * b ^ k < b ^ (k + 1) := by
      have : (d + 1) * b ^ k ≤ b * b ^ k := Nat.mul_le_mul_right _ hd
      rw [Nat.add_mul] at this
      rw [Nat.pow_succ, Nat.mul_comm (b ^ k)]
      omega
    have h2 : b ^ (k + 1) ≤ b ^ i := Nat.pow_le_pow_right hp h
    have h3 : b ^ k ≤ b ^ (k + 1) := Nat.pow_le_pow_right hp (by omega)
    rw [Nat.div_eq_of_lt (by omega), Nat.div_eq_of_lt (by omega)]
theorem lb_add (n d k i : Nat) (hn : n < B ^ k) (hd : d < B) : lb (n + d * B ^ k) i = if i = k then d else lb n i := by
  unfold lb
  exact part_add B n d k i (by decide) hn hd
/-- A product with the k lowest parts. -/
def pk (A b k : Nat) : Nat := A * (b % B ^ k)
theorem pk_succ (A b k : Nat) : pk A b (k + 1) = pk A b k + A * lb b k * B ^ k := by
  unfold pk lb
  rw [Nat.pow_succ, Nat.mod_mul, Nat.mul_add, Nat.mul_comm (B ^ k), Nat.mul_assoc]
theorem pk_hi_lt (A b k : Nat) (hA : A < M) : pk A b k / B ^ k < M := by
  have hp : 0 < B ^ k := Nat.pow_pos (by decide)
  rw [Nat.div_lt_iff_lt_mul hp]
  unfold pk
  exact Nat.lt_of_le_of_lt (Nat.mul_le_mul_left _ (Nat.le_of_lt (Nat.mod_lt _ hp))) (Nat.mul_lt_mul_of_pos_right hA hp)
theorem pk_sum (A b k : Nat) : pk A b k / B ^ k + A * lb b k = pk A b (k + 1) / B ^ k := by
  have hp : 0 < B ^ k := Nat.pow_pos (by decide)
  rw [pk_succ, Nat.add_mul_div_right _ _ hp]
theorem pk_lo (A b k : Nat) : pk A b (k + 1) % B ^ (k + 1) = pk A b k % B ^ k + l0 (pk A b (k + 1) / B ^ k) * B ^ k := by
  unfold l0
  rw [Nat.pow_succ, Nat.mod_mul, Nat.mul_comm (B ^ k)]
  congr 1
  rw [pk_succ, Nat.add_mul_mod_self_right]
theorem num_shift {S : Nat} (_hS : S / M < B) : num (l1 S) (l2 S) (l3 S) (S / M) = S / B := by
  have h := num_parts S
  have d := Nat.div_add_mod S M
  rw [← h] at d
  have hM : M = B * (B * (B * B)) := by decide
  have e : S = l0 S + B * num (l1 S) (l2 S) (l3 S) (S / M) := by
    conv => lhs; rw [← d]
    generalize S / M = t
    rw [hM]; unfold num; simp only [B]; omega
  have hl := (l_lt S).1
  generalize num (l1 S) (l2 S) (l3 S) (S / M) = z at *
  generalize l0 S = y at *
  rw [e, Nat.add_mul_div_left _ _ (by decide), Nat.div_eq_of_lt hl, Nat.zero_add]
end SmWord

theorem wa_put (n d k : Nat) (hk : k < 4) (hn : n < B ^ k) (hd : d < B) : (wa n).setIfInBounds k (.int .u64 ((d : Nat) : Int)) = wa (n + d * B ^ k) := by
  apply Array.ext_getElem?
  intro i
  by_cases hi : i < 4
  · rw [wa_lb _ i hi, lb_add n d k i hn hd]
    by_cases hij : i = k
    · subst hij
      rw [if_pos rfl, Array.getElem?_setIfInBounds_self_of_lt (by rw [wa_size]; exact hi)]
    · rw [if_neg hij, Array.getElem?_setIfInBounds_ne (Ne.symm hij), wa_lb _ i hi]
  · rw [Array.getElem?_eq_none (by rw [Array.size_setIfInBounds, wa_size]; omega), Array.getElem?_eq_none (by rw [wa_size]; omega)]
theorem wa_four {a b c d : Nat} (ha : a < B) (hb : b < B) (hc : c < B) (hd : d < B) :
    ((((wa 0).setIfInBounds 0 (Value.int .u64 ((a : Nat) : Int))).setIfInBounds 1 (.int .u64 ((b : Nat) : Int))).setIfInBounds 2 (.int .u64 ((c : Nat) : Int))).setIfInBounds 3 (.int .u64 ((d : Nat) : Int)) = wa (num a b c d) :=
  (Value.agg.inj (wd_num ha hb hc hd)).symm

theorem product_wd (a b : Nat) (w : World) :
    Calls Try.prog 74 #[wd a, wd b] w fun e w' => e = .returned (.tuple #[wd (a % M * (b % M)), wd (a % M * (b % M) / M)]) ∧ Below w.heap.size w w' := by
  have hA : a % M < M := Nat.mod_lt _ (by decide)
  have e4 : pk (a % M) b 4 = a % M * (b % M) := by unfold pk; rw [show B ^ 4 = M by decide]
  have hS : ∀ k, pk (a % M) b (k + 1) / B ^ k / M < B := fun k => by
    have h := pk_hi_lt (a % M) b (k + 1) hA
    rw [Nat.pow_succ, ← Nat.div_div_eq_div_mul] at h
    generalize pk (a % M) b (k + 1) / B ^ k = z at *
    rw [Nat.div_lt_iff_lt_mul (by decide)] at h ⊢
    rw [Nat.mul_comm]; exact h
  have key := product_walk a b (fun k => pk (a % M) b k % B ^ k) (fun k => pk (a % M) b k / B ^ k) (fun k => pk (a % M) b (k + 1) / B ^ k) (fun k => pk (a % M) b (k + 1) / B ^ k / M) w
    (Lib.hid (by show pk (a % M) b 0 % B ^ 0 = 0; rw [Nat.pow_zero, Nat.mod_one])) (Lib.hid (by show pk (a % M) b 0 / B ^ 0 = 0; unfold pk; rw [Nat.pow_zero, Nat.mod_one, Nat.mul_zero, Nat.zero_div]))
    (Lib.hid fun k _ w => by
      have := addTimes_wd (pk (a % M) b k / B ^ k) a (lb b k) (lb_lt _ _) w
      rw [Nat.mod_eq_of_lt (pk_hi_lt (a % M) b k hA), pk_sum] at this
      exact this)
    (Lib.hid fun k hk => by
      show _ = wa (pk (a % M) b (k + 1) % B ^ (k + 1))
      rw [pk_lo]
      exact wa_put _ _ k hk (Nat.mod_lt _ (Nat.pow_pos (by decide))) (l_lt _).1)
    (Lib.hid fun k _ => by
      obtain ⟨_, A1, A2, A3⟩ := l_lt (pk (a % M) b (k + 1) / B ^ k)
      show _ = wa (pk (a % M) b (k + 1) / B ^ (k + 1))
      rw [wa_four A1 A2 A3 (hS k), num_shift (hS k), Nat.div_div_eq_div_mul, ← Nat.pow_succ])
  simp only [e4, show B ^ 4 = M by decide] at key
  rw [wd_congr (Nat.mod_mod _ M)] at key
  exact key

theorem mulMod_wd (a b m : Nat) (w : World) :
    Calls Try.prog 62 #[wd a, wd b, wd m] w fun e w' => e = .returned (wd (rs (a % M * (b % M)) (m % M))) ∧ Below w.heap.size w w' :=
  mulMod_walk a b m _ _ _ w (Lib.hid fun w => product_wd a b w) (Lib.hid fun w => by
    have := left_wd (a % M * (b % M) / M) (a % M * (b % M)) m w
    have hlt : a % M * (b % M) / M < M := by
      rw [Nat.div_lt_iff_lt_mul (by decide)]
      exact Nat.lt_of_le_of_lt (Nat.mul_le_mul_left _ (Nat.le_of_lt (Nat.mod_lt b (show 0 < M by decide)))) (Nat.mul_lt_mul_of_pos_right (Nat.mod_lt a (show 0 < M by decide)) (by decide))
    rw [Nat.mod_eq_of_lt hlt, Nat.mul_comm (a % M * (b % M) / M), Nat.div_add_mod] at this
    exact this)

theorem addMod_wd (a b m : Nat) (w : World) :
    Calls Try.prog 61 #[wd a, wd b, wd m] w fun e w' => e = .returned (wd (rs (a % M + b % M) (m % M))) ∧ Below w.heap.size w w' := by
  have ha : a % M < M := Nat.mod_lt _ (by decide)
  have hb : b % M < M := Nat.mod_lt _ (by decide)
  have e : (a + b) % M = (a % M + b % M) % M := Nat.add_mod _ _ _
  have d := Nat.div_add_mod (a % M + b % M) M
  have hc : (a % M + b % M) / M = if (a + b) % M < a % M then 1 else 0 := by
    rw [e]
    by_cases c : a % M + b % M < M
    · rw [Nat.div_eq_of_lt c, Nat.mod_eq_of_lt c, if_neg (by omega)]
    · have h5 : (a % M + b % M) / M = 1 := by rw [Nat.div_eq_of_lt_le] <;> omega
      rw [h5] at d
      rw [h5, if_pos (by omega)]
  refine addMod_walk a b m ((a % M + b % M) / M) _ (cmpN ((a + b) % M) (a % M)) w (Lib.hid fun w => compare_wd (a + b) a w) (Lib.hid fun h => ?_) (Lib.hid fun h => ?_) (Lib.hid fun w => ?_)
  · rw [hc]
    unfold cmpN at h
    split at h
    · rename_i h1; rw [if_pos h1]
    · split at h <;> omega
  · rw [hc]
    unfold cmpN at h
    split at h
    · omega
    · rename_i h1; rw [if_neg h1]
  · have := left_wd ((a % M + b % M) / M) (a + b) m w
    have hlt : (a % M + b % M) / M < M := by rw [hc]; split <;> decide
    rw [Nat.mod_eq_of_lt hlt, e, Nat.mul_comm ((a % M + b % M) / M), d] at this
    exact this

theorem exp_wd (a n : Nat) (w : World) :
    Calls Try.prog 45 #[wd a, wd n] w fun e w' => e = .returned (wd (a ^ (n % M))) ∧ Below w.heap.size w w' := by
  have hN : n % M < M := Nat.mod_lt _ (by decide)
  have hL : bl (n % M) ≤ 256 := bl_le (by rw [← M_2]; exact hN)
  have h0 : n % M / 2 ^ bl (n % M) = 0 := by
    by_cases hz : n % M = 0
    · rw [hz, Nat.zero_div]
    · obtain ⟨k, e, _, h2⟩ := bl_spec hz
      rw [e]; exact Nat.div_eq_of_lt h2
  have key := exp_walk a n (bl (n % M)) (fun j => a ^ (n % M / 2 ^ j)) w hL (Lib.hid (by show a ^ (n % M / 2 ^ bl (n % M)) = 1; rw [h0, Nat.pow_zero])) (Lib.hid fun w => len_wd n w)
    (Lib.hid fun j hj => by
      have hj2 : j < 256 := by omega
      have hb := bit_congr (show n % M = n % M % M by rw [Nat.mod_mod]) hj2
      have hd : n % M / 2 ^ j = n % M / 2 ^ (j + 1) + n % M / 2 ^ (j + 1) + bitN n j := by
        rw [hb]
        unfold bitN
        have := Nat.div_add_mod (n % M / 2 ^ j) 2
        rw [Nat.div_div_eq_div_mul, ← Nat.pow_succ] at this
        generalize n % M / 2 ^ (j + 1) = u at *
        generalize n % M / 2 ^ j = v at *
        omega
      have h2 := bitN_lt n j
      refine ⟨decide (j < 256 ∧ bitN n j = 1), fun w => wbit_wd n j w (by simp only [B]; omega), fun ht => ?_, fun hf => ?_⟩
      · have h1 : bitN n j = 1 := (of_decide_eq_true ht).2
        show a ^ (n % M / 2 ^ j) % M = _
        rw [hd, h1, Nat.pow_succ, Nat.pow_add]
      · have h1 : bitN n j = 0 := by
          have := of_decide_eq_false hf
          omega
        show a ^ (n % M / 2 ^ j) % M = _
        rw [hd, h1, Nat.add_zero, Nat.pow_add])
  simp only [Nat.pow_zero, Nat.div_one] at key
  exact key
end Go.Proofs.Ytdpbjdecbilaeaa
/- The chapter's examples, as the function fixed of the statements of layer 2 puts them together: it returns true, and leaves all older memory as it was. -/
namespace Go.Proofs.Ytdpbjdecbilaeaa
open Go.RowKit SmWord
set_option maxRecDepth 100000

theorem store_pairA (w : World) (a : Nat) : (storeCells ⟨w.heap.size, 0, none⟩ (wa a).toList 0).run Try.prog ((w.alloc (.cells #[.int .u64 0, .int .u64 0, .int .u64 0, .int .u64 0] 24)).alloc (.cells #[.int .u64 0, .int .u64 0, .int .u64 0, .int .u64 0] 24)) = .ok () ((w.alloc (.cells (wa a) 24)).alloc (.cells #[.int .u64 0, .int .u64 0, .int .u64 0, .int .u64 0] 24)) := store_pair1 w a
theorem store_pairB (w : World) (a b : Nat) : (storeCells ⟨w.heap.size + 1, 0, none⟩ (wa b).toList 0).run Try.prog ((w.alloc (.cells (wa a) 24)).alloc (.cells #[.int .u64 0, .int .u64 0, .int .u64 0, .int .u64 0] 24)) = .ok () ((w.alloc (.cells (wa a) 24)).alloc (.cells (wa b) 24)) := store_pair2 w a b
def kOnes : Nat := M - 1
def kHigh : Nat := 2 ^ 255
def kExp : Nat := 2 ^ (255 % M)
theorem fy_div1 (w : World) : Calls Try.prog 43 #[.agg #[.int .u64 7, .int .u64 0, .int .u64 0, .int .u64 0], .agg #[.int .u64 2, .int .u64 0, .int .u64 0, .int .u64 0]] w fun e w' => e = .returned (.tuple #[wd 3, wd 1]) ∧ Below w.heap.size w w' := by
  have := div_wd 7 2 w
  rw [show 7 % M / (2 % M) = 3 by decide, show rs (7 % M) (2 % M) = 1 by decide] at this
  exact this
theorem fy_div2 (w : World) : Calls Try.prog 43 #[.agg #[.int .u64 7, .int .u64 0, .int .u64 0, .int .u64 0], .agg #[.int .u64 0, .int .u64 0, .int .u64 0, .int .u64 0]] w fun e w' => e = .returned (.tuple #[wd 0, wd 0]) ∧ Below w.heap.size w w' := by
  have := div_wd 7 0 w
  rw [show 7 % M / (0 % M) = 0 by decide, show rs (7 % M) (0 % M) = 0 by decide] at this
  exact this
theorem fy_add (w : World) : Calls Try.prog 61 #[.agg #[.int .u64 18446744073709551615, .int .u64 18446744073709551615, .int .u64 18446744073709551615, .int .u64 18446744073709551615], .agg #[.int .u64 2, .int .u64 0, .int .u64 0, .int .u64 0], .agg #[.int .u64 2, .int .u64 0, .int .u64 0, .int .u64 0]] w fun e w' => e = .returned (wd 1) ∧ Below w.heap.size w w' := by
  have := addMod_wd kOnes 2 2 w
  rw [show rs (kOnes % M + 2 % M) (2 % M) = 1 by decide] at this
  exact this
theorem fy_mul (w : World) : Calls Try.prog 62 #[.agg #[.int .u64 0, .int .u64 0, .int .u64 0, .int .u64 9223372036854775808], .agg #[.int .u64 2, .int .u64 0, .int .u64 0, .int .u64 0], .agg #[.int .u64 3, .int .u64 0, .int .u64 0, .int .u64 0]] w fun e w' => e = .returned (wd 1) ∧ Below w.heap.size w w' := by
  have := mulMod_wd kHigh 2 3 w
  rw [show rs (kHigh % M * (2 % M)) (3 % M) = 1 by decide] at this
  exact this
theorem fy_exp (w : World) : Calls Try.prog 45 #[.agg #[.int .u64 2, .int .u64 0, .int .u64 0, .int .u64 0], .agg #[.int .u64 255, .int .u64 0, .int .u64 0, .int .u64 0]] w fun e w' => e = .returned (wd kExp) ∧ Below w.heap.size w w' := exp_wd 2 255 w
theorem fy_e3 (w : World) : (Op.equalIn 10000 24 (.agg (wa 3)) (.agg #[.int .u64 3, .int .u64 0, .int .u64 0, .int .u64 0])).run Try.prog w = .ok true w := by
  have := equal_wa 3 3 w
  rw [decide_eq_true rfl] at this
  exact this
theorem fy_e1 (w : World) : (Op.equalIn 10000 24 (.agg (wa 1)) (.agg #[.int .u64 1, .int .u64 0, .int .u64 0, .int .u64 0])).run Try.prog w = .ok true w := by
  have := equal_wa 1 1 w
  rw [decide_eq_true rfl] at this
  exact this
theorem fy_e0 (w : World) : (Op.equalIn 10000 24 (.agg (wa 0)) (.agg #[.int .u64 0, .int .u64 0, .int .u64 0, .int .u64 0])).run Try.prog w = .ok true w := by
  have := equal_wa 0 0 w
  rw [decide_eq_true rfl] at this
  exact this
theorem fy_eE (w : World) : (Op.equalIn 10000 24 (.agg (wa kExp)) (.agg #[.int .u64 0, .int .u64 0, .int .u64 0, .int .u64 9223372036854775808])).run Try.prog w = .ok true w := by
  have := equal_wa kExp kHigh w
  rw [decide_eq_true (by decide)] at this
  exact this

end Go.Proofs.Ytdpbjdecbilaeaa
