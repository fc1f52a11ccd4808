/- What the function Constants of the document's own answers for keccak does: the rounds' constants, by the row of bits. -/
import Derived.Test.YtgejfdbbapjpmaaDoorKkG
import Derived.Test.YtgejfdbbapjpmaaDoorShiftR
import Derived.Deep.CutRange
namespace Go.Proofs.YtgejfdbbapjpmaaDoor
open Go.RowKit SmWord
set_option maxRecDepth 100000

/-- The number behind t bits. -/
def nv : Nat → Nat
  | 0 => 1
  | t + 1 => if 256 ≤ nv t * 2 then nv t * 2 ^^^ 369 else nv t * 2
def nvs (t : Nat) : Nat := (List.range t).foldl (fun x _ => if 256 ≤ x * 2 then x * 2 ^^^ 369 else x * 2) 1
theorem nv_nvs : ∀ t, nv t = nvs t
  | 0 => rfl
  | t + 1 => by
    unfold nv nvs
    rw [List.range_succ, List.foldl_append, nv_nvs t]
    rfl
theorem nvs_lt : ∀ t, t < 169 → nvs t < 256 := by decide +kernel
theorem nv_lt {t : Nat} (h : t < 169) : nv t < 256 := by rw [nv_nvs]; exact nvs_lt t h
/-- Constant i, with the bits below j. -/
def kp (i : Nat) : Nat → Nat
  | 0 => 0
  | j + 1 => if nv (7 * i + j) % 2 = 1 then kp i j ||| 2 ^ (2 ^ j - 1) else kp i j
def kps (i : Nat) : Nat := (List.range 7).foldl (fun x j => if nvs (7 * i + j) % 2 = 1 then x ||| 2 ^ (2 ^ j - 1) else x) 0
theorem kp_kps (i : Nat) : kp i 7 = kps i := by simp [kp, kps, nv_nvs, List.range_succ]
theorem kps_kc : ∀ i, i < 24 → kps i = kc i := by decide +kernel
theorem kp_kc {i : Nat} (h : i < 24) : kp i 7 = kc i := by rw [kp_kps, kps_kc i h]
theorem kp_lt (i : Nat) : ∀ j, j ≤ 7 → kp i j < B
  | 0, _ => by simp [kp, B]
  | j + 1, h => by
    have h2 : ∀ j, j < 7 → 2 ^ (2 ^ j - 1) < B := by decide
    unfold kp
    split
    · rw [B_two]
      exact Nat.or_lt_two_pow (B_two ▸ kp_lt i j (by omega)) (B_two ▸ h2 j (by omega))
    · exact kp_lt i j (by omega)
/-- 24 lanes. -/
def ca (S : Nat → Nat) : Array Value := arr .u64 24 (fun i => ((S i : Nat) : Int))
def zC : Array Value := ca fun _ => 0
theorem Tryd.infoC : (Tryd.prog.info? 38).map (fun i => (i.zero, i.size)) = some (some (.agg zC), 24) := by kernel_rfl
theorem zC_run (w : World) : (zeroValue 38).run Tryd.prog w = .ok (.agg zC) w := (zero_of_info Tryd.infoC).1 w
theorem infoArrC (S : Nat → Nat) : (Tryd.prog.info? 38).map (·.size) = some (ca S).size := by rw [ca, arr_size]; exact (zero_of_info Tryd.infoC).2
/-- What is made at place i behind j bits. -/
def kd (i j k : Nat) : Nat := if k < i then kc k else if k = i then kp i j else 0
theorem kd_put {i j : Nat} (h : i < 24) (hb : nv (7 * i + j) % 2 = 1) : (ca (kd i j)).setIfInBounds i (.int .u64 ((kp i j ||| 2 ^ (2 ^ j - 1) : Nat) : Int)) = ca (kd i (j + 1)) := by
  unfold ca
  rw [arr_set _ _ _ h]
  refine arr_congr fun k _ => ?_
  unfold kd
  by_cases e : k = i
  · subst e; simp [kp, hb]
  · simp [e]
theorem kd_not {i j : Nat} (hb : ¬ nv (7 * i + j) % 2 = 1) : ca (kd i j) = ca (kd i (j + 1)) := arr_congr fun k _ => by
  unfold kd
  by_cases e : k = i
  · subst e; simp [kp, hb]
  · simp [e]
theorem kd_next {i : Nat} (h : i < 24) : ca (kd i 7) = ca (kd (i + 1) 0) := arr_congr fun k _ => by
  unfold kd
  by_cases e : k = i
  · subst e; simp [kp_kc h]
  · by_cases l : k < i
    · simp [l, show k < i + 1 by omega]
    · by_cases e2 : k = i + 1
      · subst e2; simp [kp]; omega
      · simp [e, l, e2, show ¬ k < i + 1 by omega]
theorem kd_end : ca (kd 24 0) = ca kc := arr_congr fun k hk => by simp [kd, hk]
theorem kd_start : ca (kd 0 0) = zC := arr_congr fun k _ => by simp [kd, kp]
theorem two_lt : ∀ j, j < 7 → 1 ≤ 2 ^ j ∧ 2 ^ j ≤ 64 ∧ 2 ^ (2 ^ j - 1) < B := by decide
theorem wrap_two {j p : Nat} (h : 2 ^ j = p) (hp : p < B) : IntKind.u64.wrap ((2 : Int) ^ j) = (p : Int) := by
  rw [show (2 : Int) ^ j = ((2 ^ j : Nat) : Int) by simp, h, IntKind.wrap_u64]
  simp only [B] at hp
  omega
theorem wrap_low {p q : Nat} (h : p - 1 = q) (h1 : 1 ≤ p) (hp : p ≤ 64) : IntKind.u64.wrap ((p : Int) - 1) = (q : Int) := by
  rw [IntKind.wrap_u64]
  omega
theorem kd_here (i j : Nat) : kd i j i = kp i j := by simp [kd]
theorem i64_xor_small (a b : Nat) (ha : a < 1024) (hb : b < 1024) : bits .xor .i64 (a : Int) (b : Int) = ((a ^^^ b : Nat) : Int) := by
  have hx : a ^^^ b < 2 ^ 10 := Nat.xor_lt_two_pow (by omega) (by omega)
  show IntKind.i64.wrap ((BitVec.ofInt 64 (a : Int) ^^^ BitVec.ofInt 64 (b : Int)).toNat : Int) = _
  rw [BitVec.toNat_xor, ofInt_u64 a (by omega), ofInt_u64 b (by omega)]
  have e : ((a ^^^ b : Nat) : Int) < 1024 := by omega
  have e0 : (0 : Int) ≤ ((a ^^^ b : Nat) : Int) := by omega
  generalize ((a ^^^ b : Nat) : Int) = y at *
  simp [IntKind.wrap, IntKind.bits, IntKind.signed]
  omega
set_option maxHeartbeats 2000000 in
theorem const_walk (w : World) : Calls Tryd.prog 14 #[] w fun e w' => e = .returned (.agg (ca kc)) ∧ Below w.heap.size w w' := by
  go_enter Tryd.func14, Tryd.ntmps14
  go_wp2_with (first | (refine wpList_alloc_row rfl 38 rfl zC zC_run ?_) | (refine wpList_build_zero rfl 38 rfl Tryd.underlying38 Tryd.sizeOf22 zC zC_run ?_) | (refine wpList_store_row rfl 38 _ _ rfl _ zC zC rfl rfl (heap_alloc_new _ _) (infoArrC _) rfl (arr_one _ _ _) ?_))
  have f0 : (((w.alloc (.cells zC 38)).alloc (.cells zC 38)).setRow (w.heap.size + 1) zC).heap[w.heap.size]? = some (.cells zC 38) := blk_row_other (blk_alloc (heap_alloc_new _ _)) (by omega)
  have f1 : (((w.alloc (.cells zC 38)).alloc (.cells zC 38)).setRow (w.heap.size + 1) zC).heap[w.heap.size + 1]? = some (.cells (ca (kd 0 0)) 38) := by rw [kd_start]; exact blk_row (heap_alloc2_new _ _ _)
  have bW : Below w.heap.size w (((w.alloc (.cells zC 38)).alloc (.cells zC 38)).setRow (w.heap.size + 1) zC) := below_setRow (((Below.refl _ _).alloc (Nat.le_refl _) _).alloc (by simp) _) (by omega) _
  generalize (((w.alloc (.cells zC 38)).alloc (.cells zC 38)).setRow (w.heap.size + 1) zC) = W at *
  go_loopw [2, 3] (fun v i wr => ∃ k : Nat, k ≤ 24 ∧ i = .int .i64 k ∧ v = .int .i64 ((nv (7 * k) : Nat) : Int) ∧ Below w.heap.size w wr ∧ wr.heap[w.heap.size]? = some (.cells zC 38) ∧ wr.heap[w.heap.size + 1]? = some (.cells (ca (kd k 0)) 38)) (fun _ i _ => 24 - (intOf i).toNat)
  case atStart => exact ⟨0, by omega, rfl, rfl, bW, f0, f1⟩
  case round =>
    clear bW f0 f1
    obtain ⟨k, hk, rfl, rfl, bW, f0, f1⟩ := hrel
    by_cases hlt : k < 24
    · obtain ⟨x, hx⟩ : ∃ x, nv (7 * k) = x := ⟨_, rfl⟩
      rw [hx]
      have HX := Lib.hid hx
      clear hx
      go_wp2_with fail
      go_loopw [2, 4] (fun v i wr => ∃ j x : Nat, j ≤ 7 ∧ i = .int .i64 j ∧ v = .int .i64 ((x : Nat) : Int) ∧ Hid (nv (7 * k + j) = x) ∧ Below w.heap.size w wr ∧ wr.heap[w.heap.size]? = some (.cells zC 38) ∧ wr.heap[w.heap.size + 1]? = some (.cells (ca (kd k j)) 38)) (fun _ i _ => 7 - (intOf i).toNat)
      case atStart => exact ⟨0, x, by omega, rfl, rfl, HX, bW, f0, f1⟩
      case round =>
        clear bW f0 f1 HX
        obtain ⟨j, x, hj, rfl, rfl, HX, bW, f0, f1⟩ := hrel
        by_cases hlt7 : j < 7
        · have hx8 : x < 256 := by rw [← HX.out]; exact nv_lt (by omega)
          have c1 := blk_cell f1 (arr_get .u64 (fun i => ((kd k j i : Nat) : Int)) hlt)
          have F0 := Lib.hid f0
          have F1 := Lib.hid f1
          have HB := Lib.hid bW
          clear f0 f1 bW
          by_cases hodd : x % 2 = 1
          · have ho : (((x : Nat) : Int) % 2 == 1) = true := by simp; omega
            go_upto_region 10 with fail
            obtain ⟨t1, t2, t3⟩ := two_lt j hlt7
            obtain ⟨p, hp⟩ : ∃ p, 2 ^ j = p := ⟨_, rfl⟩
            obtain ⟨q, hq⟩ : ∃ q, p - 1 = q := ⟨_, rfl⟩
            obtain ⟨r, hr⟩ : ∃ r, 2 ^ q = r := ⟨_, rfl⟩
            obtain ⟨z, hz⟩ : ∃ z, kp k j = z := ⟨_, rfl⟩
            have hrr : 2 ^ (2 ^ j - 1) = r := by rw [hp, hq, hr]
            rw [hrr] at t3
            rw [hp] at t1 t2
            have e1 : IntKind.u64.wrap ((2 : Int) ^ j) = (p : Int) := wrap_two hp (by simp only [B]; omega)
            have e2 : IntKind.u64.wrap ((p : Int) - 1) = (q : Int) := wrap_low hq t1 t2
            have e3 : min q 64 = q := by omega
            have e4 : IntKind.u64.wrap ((2 : Int) ^ q) = (r : Int) := wrap_two hr t3
            have e5 : bits .or .u64 ((z : Nat) : Int) ((r : Nat) : Int) = ((z ||| r : Nat) : Int) := u64_or_nat _ _ (by rw [← hz]; exact kp_lt k j (by omega)) t3
            have HR := Lib.hid hrr
            have HZ := Lib.hid hz
            clear hp hq hr hrr hz t1 t2 t3 c1 ho
            refine region_last2 (aQ := ?aQ) 10 (by kernel_rfl) (by kernel_rfl) (fun w1 => ?hq) (fun w0' hb' => ?hh)
            case hq =>
              have cg : ∀ g : Ext w1.on, g.on.cell? ⟨w.heap.size + 1, k, none⟩ = some (.int .u64 ((z : Nat) : Int)) := fun g => by
                have := blk_cell (g.block (w1.block F1.out)) (arr_get .u64 (fun i => ((kd k j i : Nat) : Int)) hlt)
                rwa [kd_here, HZ.out] at this
              simp only [List.take_succ_cons, List.take_zero]
              repeat (go_big_quiet_step (fail))
              refine wpQuiet_nil ?_
              rfl
            have g1 : w0'.heap[w.heap.size + 1]? = some (.cells (ca (kd k j)) 38) := Ext.block ⟨w0', hb'⟩ F1.out
            have g0 := stay hb' F0.out
            replace HB := Lib.hid (HB.out.trans (hb'.mono HB.out.size))
            clear F0 F1 hb'
            have cx := blk_cell g1 (arr_get .u64 (fun i => ((kd k j i : Nat) : Int)) hlt)
            have fz := blk_frozen (j := k) g1
            have h1 : (w0'.setCell ⟨w.heap.size + 1, k, none⟩ (.int .u64 ((z ||| r : Nat) : Int))).heap[w.heap.size + 1]? = _ := blk_set g1 _
            rw [← HZ.out, ← HR.out, kd_put hlt (by rw [HX.out]; exact hodd), HZ.out, HR.out] at h1
            have F0 := Lib.hid (blk_other (b := w.heap.size + 1) (j := k) g0 (by omega) (.int .u64 ((z ||| r : Nat) : Int)))
            have F1 := Lib.hid h1
            clear g0 g1 h1
            simp only [List.drop_succ_cons, List.drop_zero]
            go_upto_region 11 with fail
            clear cx fz e1 e2 e3 e4 e5 HZ HR
            replace HB := Lib.hid (HB.out.setCell (p := ⟨w.heap.size + 1, k, none⟩) (by simp) (.int .u64 ((z ||| r : Nat) : Int)))
            generalize w0'.setCell ⟨w.heap.size + 1, k, none⟩ (.int .u64 ((z ||| r : Nat) : Int)) = w2 at *
            by_cases hbig : 256 ≤ x * 2
            · have hxx : bits .xor .i64 ((x : Int) * 2) 369 = ((x * 2 ^^^ 369 : Nat) : Int) := i64_xor_small (x * 2) 369 (by omega) (by decide)
              have hn : nv (7 * k + (j + 1)) = x * 2 ^^^ 369 := by rw [show 7 * k + (j + 1) = (7 * k + j) + 1 by omega, nv, HX.out, if_pos hbig]
              have HN := Lib.hid hn
              clear hn
              go_wp2_with fail
              exact ⟨⟨j + 1, x * 2 ^^^ 369, by omega, by go_num, rfl, HN, HB.out, F0.out, F1.out⟩, by simp [intOf]; omega⟩
            · have hn : nv (7 * k + (j + 1)) = x * 2 := by rw [show 7 * k + (j + 1) = (7 * k + j) + 1 by omega, nv, HX.out, if_neg hbig]
              have HN := Lib.hid hn
              clear hn
              go_wp2_with fail
              exact ⟨⟨j + 1, x * 2, by omega, by go_num, by go_num, HN, HB.out, F0.out, F1.out⟩, by simp [intOf]; omega⟩
          · have ho : (((x : Nat) : Int) % 2 == 1) = false := by simp; omega
            rw [kd_not (by rw [HX.out]; exact hodd)] at F1
            clear c1
            go_upto_region 11 with fail
            clear ho
            by_cases hbig : 256 ≤ x * 2
            · have hxx : bits .xor .i64 ((x : Int) * 2) 369 = ((x * 2 ^^^ 369 : Nat) : Int) := i64_xor_small (x * 2) 369 (by omega) (by decide)
              have hn : nv (7 * k + (j + 1)) = x * 2 ^^^ 369 := by rw [show 7 * k + (j + 1) = (7 * k + j) + 1 by omega, nv, HX.out, if_pos hbig]
              have HN := Lib.hid hn
              clear hn
              go_wp2_with fail
              exact ⟨⟨j + 1, x * 2 ^^^ 369, by omega, by go_num, rfl, HN, HB.out, F0.out, F1.out⟩, by simp [intOf]; omega⟩
            · have hn : nv (7 * k + (j + 1)) = x * 2 := by rw [show 7 * k + (j + 1) = (7 * k + j) + 1 by omega, nv, HX.out, if_neg hbig]
              have HN := Lib.hid hn
              clear hn
              go_wp2_with fail
              exact ⟨⟨j + 1, x * 2, by omega, by go_num, by go_num, HN, HB.out, F0.out, F1.out⟩, by simp [intOf]; omega⟩
        · obtain rfl : j = 7 := by omega
          rw [kd_next hlt] at f1
          have F0 := Lib.hid f0
          have F1 := Lib.hid f1
          have HB := Lib.hid bW
          clear f0 f1 bW
          go_wp2_with fail
          exact ⟨⟨k + 1, by omega, by go_num, by rw [← HX.out]; rfl, HB.out, F0.out, F1.out⟩, by simp [intOf]; omega⟩
    · obtain rfl : k = 24 := by omega
      rw [kd_end] at f1
      have HB := Lib.hid bW
      clear bW
      go_wp2_with (first | (refine wpList_load_row rfl 38 _ rfl _ rfl 38 (ca kc) (0, 0) _ f1 Tryd.underlying38 rfl (infoArrC _) ?_) | (refine wpList_store_row rfl 38 _ _ rfl _ zC (ca kc) rfl rfl f0 (infoArrC _) rfl (arr_one _ _ _) ?_))
      refine bodyPost_ret (v := .agg (ca kc)) (results_cell_row rfl _ _ _ 38 (ca kc) (0, 0) _ rfl (blk_row f0) Tryd.underlying38 rfl (infoArrC _)) rfl ⟨rfl, below_setRow HB.out (Nat.le_refl _) _⟩
end Go.Proofs.YtgejfdbbapjpmaaDoor
