/- What the function Constants of the document's own answers for keccak does: the rounds' constants, by the row of bits. -/
import Derived.Test.YtmcbaolecmkpdaaDoorG9
import Derived.Test.YtmcbaolecmkpdaaDoorG3
import Derived.Deep.CutRange
import Derived.Test.YtmcbaolecmkpdaaDoorG8
namespace Go.Proofs.YtmcbaolecmkpdaaDoor
open Go.RowKit SmWord
set_option maxRecDepth 100000

/-- The number behind t bits. -/
def nv : Nat → Nat
  | 0 => 1
  | t + 1 => if 256 ≤ nv t * 2 then nv t * 2 ^^^ 369 else nv t * 2
def nvs (t : Nat) : Nat := (List.range t).foldl (fun x _ => if 256 ≤ x * 2 then x * 2 ^^^ 369 else x * 2) 1
theorem nv_nvs : ∀ t, nv t = nvs t
  | 0 => rfl
  | t + 1 => by
    unfold nv nvs
    rw [List.range_succ, List.foldl_append, nv_nvs t]
    rfl
theorem nvs_lt : ∀ t, t < 169 → nvs t < 256 := by decide +kernel
theorem nv_lt {t : Nat} (h : t < 169) : nv t < 256 := by rw [nv_nvs]; exact nvs_lt t h
/-- Constant i, with the bits below j. -/
def kp (i : Nat) : Nat → Nat
  | 0 => 0
  | j + 1 => if nv (7 * i + j) % 2 = 1 then kp i j ||| 2 ^ (2 ^ j - 1) else kp i j
def kps (i : Nat) : Nat := (List.range 7).foldl (fun x j => if nvs (7 * i + j) % 2 = 1 then x ||| 2 ^ (2 ^ j - 1) else x) 0
theorem kp_kps (i : Nat) : kp i 7 = kps i := by simp [kp, kps, nv_nvs, List.range_succ]
theorem kps_kc : ∀ i, i < 24 → kps i = kc i := by decide +kernel
theorem kp_kc {i : Nat} (h : i < 24) : kp i 7 = kc i := by rw [kp_kps, kps_kc i h]
theorem kp_lt (i : Nat) : ∀ j, j ≤ 7 → kp i j < B
  | 0, _ => by simp [kp, B]
  | j + 1, h => by
    have h2 : ∀ j, j < 7 → 2 ^ (2 ^ j - 1) < B := by decide
    unfold kp
    split
    · rw [B_two]
      exact Nat.or_lt_two_pow (B_two ▸ kp_lt i j (by omega)) (B_two ▸ h2 j (by omega))
    · exact kp_lt i j (by omega)
/-- 24 lanes. -/
def ca (S : Nat → Nat) : Array Value := arr .u64 24 (fun i => ((S i : Nat) : Int))
def zC : Array Value := ca fun _ => 0
theorem Tryd.infoC : (Tryd.prog.info? 87).map (fun i => (i.zero, i.size)) = some (some (.agg zC), 24) := by kernel_rfl
theorem zC_run (w : World) : (zeroValue 87).run Tryd.prog w = .ok (.agg zC) w := (zero_of_info Tryd.infoC).1 w
theorem infoArrC (S : Nat → Nat) : (Tryd.prog.info? 87).map (·.size) = some (ca S).size := by rw [ca, arr_size]; exact (zero_of_info Tryd.infoC).2
/-- What is made at place i behind j bits. -/
def kd (i j k : Nat) : Nat := if k < i then kc k else if k = i then kp i j else 0
theorem kd_put {i j : Nat} (h : i < 24) (hb : nv (7 * i + j) % 2 = 1) : (ca (kd i j)).setIfInBounds i (.int .u64 ((kp i j ||| 2 ^ (2 ^ j - 1) : Nat) : Int)) = ca (kd i (j + 1)) := by
  unfold ca
  rw [arr_set _ _ _ h]
  refine arr_congr fun k _ => ?_
  unfold kd
  by_cases e : k = i
  · subst e; simp [kp, hb]
  · simp [e]
theorem kd_not {i j : Nat} (hb : ¬ nv (7 * i + j) % 2 = 1) : ca (kd i j) = ca (kd i (j + 1)) := arr_congr fun k _ => by
  unfold kd
  by_cases e : k = i
  · subst e; simp [kp, hb]
  · simp [e]
theorem kd_next {i : Nat} (h : i < 24) : ca (kd i 7) = ca (kd (i + 1) 0) := arr_congr fun k _ => by
  unfold kd
  by_cases e : k = i
  · subst e; simp [kp_kc h]
  · by_cases l : k < i
    · simp [l, show k < i + 1 by omega]
    · by_cases e2 : k = i + 1
      · subst e2; simp [kp]; omega
      · simp [e, l, e2, show ¬ k < i + 1 by omega]
theorem kd_end : ca (kd 24 0) = ca kc := arr_congr fun k hk => by simp [kd, hk]
theorem kd_start : ca (kd 0 0) = zC := arr_congr fun k _ => by simp [kd, kp]
theorem two_lt : ∀ j, j < 7 → 1 ≤ 2 ^ j ∧ 2 ^ j ≤ 64 ∧ 2 ^ (2 ^ j - 1) < B := by decide
theorem wrap_two {j p : Nat} (h : 2 ^ j = p) (hp : p < B) : IntKind.u64.wrap ((2 : Int) ^ j) = (p : Int) := by
  rw [show (2 : Int) ^ j = ((2 ^ j : Nat) : Int) by simp, h, IntKind.wrap_u64]
  simp only [B] at hp
  omega
theorem wrap_low {p q : Nat} (h : p - 1 = q) (h1 : 1 ≤ p) (hp : p ≤ 64) : IntKind.u64.wrap ((p : Int) - 1) = (q : Int) := by
  rw [IntKind.wrap_u64]
  omega
theorem kd_here (i j : Nat) : kd i j i = kp i j := by simp [kd]
theorem i64_xor_small (a b : Nat) (ha : a < 1024) (hb : b < 1024) : bits .xor .i64 (a : Int) (b : Int) = ((a ^^^ b : Nat) : Int) := by
  have hx : a ^^^ b < 2 ^ 10 := Nat.xor_lt_two_pow (by omega) (by omega)
  show IntKind.i64.wrap ((BitVec.ofInt 64 (a : Int) ^^^ BitVec.ofInt 64 (b : Int)).toNat : Int) = _
  rw [BitVec.toNat_xor, ofInt_u64 a (by omega), ofInt_u64 b (by omega)]
  have e : ((a ^^^ b : Nat) : Int) < 1024 := by omega
  have e0 : (0 : Int) ≤ ((a ^^^ b : Nat) : Int) := by omega
  generalize ((a ^^^ b : Nat) : Int) = y at *
  simp [IntKind.wrap, IntKind.bits, IntKind.signed]
  omega
set_option maxHeartbeats 2000000 in
theorem const_walk (w : World) : Calls Tryd.prog 54 #[] w fun e w' => e = .returned (.agg (ca kc)) ∧ Below w.heap.size w w' := by
  go_enter Tryd.func54, Tryd.ntmps54
  go_wp2_with (first | (refine wpList_alloc_row rfl 87 rfl zC zC_run ?_) | (refine wpList_build_zero rfl 87 rfl Tryd.underlying87 Tryd.sizeOf24 zC zC_run ?_) | (refine wpList_store_row rfl 87 _ _ rfl _ zC zC rfl rfl (heap_alloc_new _ _) (infoArrC _) rfl (arr_one _ _ _) ?_))
  have f0 : (((w.alloc (.cells zC 87)).alloc (.cells zC 87)).setRow (w.heap.size + 1) zC).heap[w.heap.size]? = some (.cells zC 87) := blk_row_other (blk_alloc (heap_alloc_new _ _)) (by omega)
  have f1 : (((w.alloc (.cells zC 87)).alloc (.cells zC 87)).setRow (w.heap.size + 1) zC).heap[w.heap.size + 1]? = some (.cells (ca (kd 0 0)) 87) := by rw [kd_start]; exact blk_row (heap_alloc2_new _ _ _)
  have bW : Below w.heap.size w (((w.alloc (.cells zC 87)).alloc (.cells zC 87)).setRow (w.heap.size + 1) zC) := below_setRow (((Below.refl _ _).alloc (Nat.le_refl _) _).alloc (by simp) _) (by omega) _
  generalize (((w.alloc (.cells zC 87)).alloc (.cells zC 87)).setRow (w.heap.size + 1) zC) = W at *
  go_loopw [2, 3] (fun v i wr => ∃ k : Nat, k ≤ 24 ∧ i = .int .i64 k ∧ v = .int .i64 ((nv (7 * k) : Nat) : Int) ∧ Below w.heap.size w wr ∧ wr.heap[w.heap.size]? = some (.cells zC 87) ∧ wr.heap[w.heap.size + 1]? = some (.cells (ca (kd k 0)) 87)) (fun _ i _ => 24 - (intOf i).toNat)
  case atStart => exact ⟨0, by omega, rfl, rfl, bW, f0, f1⟩
  case round =>
    clear bW f0 f1
    obtain ⟨k, hk, rfl, rfl, bW, f0, f1⟩ := hrel
    by_cases hlt : k < 24
    · obtain ⟨x, hx⟩ : ∃ x, nv (7 * k) = x := ⟨_, rfl⟩
      rw [hx]
      have HX := Lib.hid hx
      clear hx
      go_wp2_with fail
      go_loopw [2, 4] (fun v i wr => ∃ j x : Nat, j ≤ 7 ∧ i = .int .i64 j ∧ v = .int .i64 ((x : Nat) : Int) ∧ Hid (nv (7 * k + j) = x) ∧ Below w.heap.size w wr ∧ wr.heap[w.heap.size]? = some (.cells zC 87) ∧ wr.heap[w.heap.size + 1]? = some (.cells (ca (kd k j)) 87)) (fun _ i _ => 7 - (intOf i).toNat)
      case atStart => exact ⟨0, x, by omega, rfl, rfl, HX, bW, f0, f1⟩
      case round =>
        clear bW f0 f1 HX
        obtain ⟨j, x, hj, rfl, rfl, HX, bW, f0, f1⟩ := hrel
        by_cases hlt7 : j < 7
        · have hx8 : x < 256 := by rw [← HX.out]; exact nv_lt (by omega)
          have c1 := blk_cell f1 (arr_get .u64 (fun i => ((kd k j i : Nat) : Int)) hlt)
          have F0 := Lib.hid f0
          have F1 := Lib.hid f1
          have HB := Lib.hid bW
          clear f0 f1 bW
          by_cases hodd : x % 2 = 1
          · have ho : (((x : Nat) : Int) % 2 == 1) = true := by simp; omega
            go_upto_region 10 with fail
            obtain ⟨t1, t2, t3⟩ := two_lt j hlt7
            obtain ⟨p, hp⟩ : ∃ p, 2 ^ j = p := ⟨_, rfl⟩
            obtain ⟨q, hq⟩ : ∃ q, p - 1 = q := ⟨_, rfl⟩
            obtain ⟨r, hr⟩ : ∃ r, 2 ^ q = r := ⟨_, rfl⟩
            obtain ⟨z, hz⟩ : ∃ z, kp k j = z := ⟨_, rfl⟩
            have hrr : 2 ^ (2 ^ j - 1) = r := by rw [hp, hq, hr]
            rw [hrr] at t3
            rw [hp] at t1 t2
            have e1 : IntKind.u64.wrap ((2 : Int) ^ j) = (p : Int) := wrap_two hp (by simp only [B]; omega)
            have e2 : IntKind.u64.wrap ((p : Int) - 1) = (q : Int) := wrap_low hq t1 t2
            have e3 : min q 64 = q := by omega
            have e4 : IntKind.u64.wrap ((2 : Int) ^ q) = (r : Int) := wrap_two hr t3
            have e5 : bits .or .u64 ((z : Nat) : Int) ((r : Nat) : Int) = ((z ||| r : Nat) : Int) := u64_or_nat _ _ (by rw [← hz]; exact kp_lt k j (by omega)) t3
            have HR := Lib.hid hrr
            have HZ := Lib.hid hz
            clear hp hq hr hrr hz t1 t2 t3 c1 ho
            refine region_last2 (aQ := ?aQ) 10 (by kernel_rfl) (by kernel_rfl) (fun w1 => ?hq) (fun w0' hb' => ?hh)
            case hq =>
              have cg : ∀ g : Ext w1.on, g.on.cell? ⟨w.heap.size + 1, k, none⟩ = some (.int .u64 ((z : Nat) : Int)) := fun g => by
                have := blk_cell (g.block (w1.block F1.out)) (arr_get .u64 (fun i => ((kd k j i : Nat) : Int)) hlt)
                rwa [kd_here, HZ.out] at this
              simp only [List.take_succ_cons, List.take_zero]
              repeat (go_big_quiet_step (fail))
              refine wpQuiet_nil ?_
              rfl
            have g1 : w0'.heap[w.heap.size + 1]? = some (.cells (ca (kd k j)) 87) := Ext.block ⟨w0', hb'⟩ F1.out
            have g0 := stay hb' F0.out
            replace HB := Lib.hid (HB.out.trans (hb'.mono HB.out.size))
            clear F0 F1 hb'
            have cx := blk_cell g1 (arr_get .u64 (fun i => ((kd k j i : Nat) : Int)) hlt)
            have fz := blk_frozen (j := k) g1
            have h1 : (w0'.setCell ⟨w.heap.size + 1, k, none⟩ (.int .u64 ((z ||| r : Nat) : Int))).heap[w.heap.size + 1]? = _ := blk_set g1 _
            rw [← HZ.out, ← HR.out, kd_put hlt (by rw [HX.out]; exact hodd), HZ.out, HR.out] at h1
            have F0 := Lib.hid (blk_other (b := w.heap.size + 1) (j := k) g0 (by omega) (.int .u64 ((z ||| r : Nat) : Int)))
            have F1 := Lib.hid h1
            clear g0 g1 h1
            simp only [List.drop_succ_cons, List.drop_zero]
            go_upto_region 11 with fail
            clear cx fz e1 e2 e3 e4 e5 HZ HR
            replace HB := Lib.hid (HB.out.setCell (p := ⟨w.heap.size + 1, k, none⟩) (by simp) (.int .u64 ((z ||| r : Nat) : Int)))
            generalize w0'.setCell ⟨w.heap.size + 1, k, none⟩ (.int .u64 ((z ||| r : Nat) : Int)) = w2 at *
            by_cases hbig : 256 ≤ x * 2
            · have hxx : bits .xor .i64 ((x : Int) * 2) 369 = ((x * 2 ^^^ 369 : Nat) : Int) := i64_xor_small (x * 2) 369 (by omega) (by decide)
              have hn : nv (7 * k + (j + 1)) = x * 2 ^^^ 369 := by rw [show 7 * k + (j + 1) = (7 * k + j) + 1 by omega, nv, HX.out, if_pos hbig]
              have HN := Lib.hid hn
              clear hn
              go_wp2_with fail
              exact ⟨⟨j + 1, x * 2 ^^^ 369, by omega, by go_num, rfl, HN, HB.out, F0.out, F1.out⟩, by simp [intOf]; omega⟩
            · have hn : nv (7 * k + (j + 1)) = x * 2 := by rw [show 7 * k + (j + 1) = (7 * k + j) + 1 by omega, nv, HX.out, if_neg hbig]
              have HN := Lib.hid hn
              clear hn
              go_wp2_with fail
              exact ⟨⟨j + 1, x * 2, by omega, by go_num, by go_num, HN, HB.out, F0.out, F1.out⟩, by simp [intOf]; omega⟩
          · have ho : (((x : Nat) : Int) % 2 == 1) = false := by simp; omega
            rw [kd_not (by rw [HX.out]; exact hodd)] at F1
            clear c1
            go_upto_region 11 with fail
            clear ho
            by_cases hbig : 256 ≤ x * 2
            · have hxx : bits .xor .i64 ((x : Int) * 2) 369 = ((x * 2 ^^^ 369 : Nat) : Int) := i64_xor_small (x * 2) 369 (by omega) (by decide)
              have hn : nv (7 * k + (j + 1)) = x * 2 ^^^ 369 := by rw [show 7 * k + (j + 1) = (7 * k + j) + 1 by omega, nv, HX.out, if_pos hbig]
              have HN := Lib.hid hn
              clear hn
              go_wp2_with fail
              exact ⟨⟨j + 1, x * 2 ^^^ 369, by omega, by go_num, rfl, HN, HB.out, F0.out, F1.out⟩, by simp [intOf]; omega⟩
            · have hn : nv (7 * k + (j + 1)) = x * 2 := by rw [show 7 * k + (j + 1) = (7 * k + j) + 1 by omega, nv, HX.out, if_neg hbig]
              have HN := Lib.hid hn
              clear hn
              go_wp2_with fail
              exact ⟨⟨j + 1, x * 2, by omega, by go_num, by go_num, HN, HB.out, F0.out, F1.out⟩, by simp [intOf]; omega⟩
        · obtain rfl : j = 7 := by omega
          rw [kd_next hlt] at f1
          have F0 := Lib.hid f0
          have F1 := Lib.hid f1
          have HB := Lib.hid bW
          clear f0 f1 bW
          go_wp2_with fail
          exact ⟨⟨k + 1, by omega, by go_num, by rw [← HX.out]; rfl, HB.out, F0.out, F1.out⟩, by simp [intOf]; omega⟩
    · obtain rfl : k = 24 := by omega
      rw [kd_end] at f1
      have HB := Lib.hid bW
      clear bW
      go_wp2_with (first | (refine wpList_load_row rfl 87 _ rfl _ rfl 87 (ca kc) (0, 0) _ f1 Tryd.underlying87 rfl (infoArrC _) ?_) | (refine wpList_store_row rfl 87 _ _ rfl _ zC (ca kc) rfl rfl f0 (infoArrC _) rfl (arr_one _ _ _) ?_))
      refine bodyPost_ret (v := .agg (ca kc)) (results_cell_row rfl _ _ _ 87 (ca kc) (0, 0) _ rfl (blk_row f0) Tryd.underlying87 rfl (infoArrC _)) rfl ⟨rfl, below_setRow HB.out (Nat.le_refl _) _⟩
end Go.Proofs.YtmcbaolecmkpdaaDoor
/- What the function Round of the document's own answers for keccak does: the four steps. -/
namespace Go.Proofs.YtmcbaolecmkpdaaDoor
open Go.RowKit SmWord
set_option maxRecDepth 100000

/-- Five lanes. -/
def ra (S : Nat → Nat) : Array Value := arr .u64 5 (fun i => ((S i : Nat) : Int))
def zR : Array Value := ra fun _ => 0
theorem Tryd.infoR5 : (Tryd.prog.info? 93).map (fun i => (i.zero, i.size)) = some (some (.agg zR), 5) := by kernel_rfl
theorem zR_run (w : World) : (zeroValue 93).run Tryd.prog w = .ok (.agg zR) w := (zero_of_info Tryd.infoR5).1 w
theorem infoArrR (S : Nat → Nat) : (Tryd.prog.info? 93).map (·.size) = some (ra S).size := by rw [ra, arr_size]; exact (zero_of_info Tryd.infoR5).2
theorem ra_get {S : Nat → Nat} {i : Nat} (h : i < 5) : (ra S)[i]? = some (.int .u64 ((S i : Nat) : Int)) := arr_get _ _ h
/-- A column's xor, as far as lane y. -/
def pck (S : Nat → Nat) (x : Nat) : Nat → Nat
  | 0 => 0
  | y + 1 => pck S x y ^^^ S (x + 5 * y)
theorem pc_col (S : Nat → Nat) (x : Nat) : pck S x 5 = col S x := by simp [pck, col, Nat.zero_xor]
theorem pc_lt {S : Nat → Nat} (h : okS S) {x : Nat} (hx : x < 5) : ∀ y, y ≤ 5 → pck S x y < B
  | 0, _ => by simp [pck, B]
  | y + 1, hy => xor_lt (pc_lt h hx y (by omega)) (h _ (by omega))
def cc5 (S : Nat → Nat) (x y k : Nat) : Nat := if k < x then col S k else if k = x then pck S x y else 0
theorem cc5_here (S : Nat → Nat) (x y : Nat) : cc5 S x y x = pck S x y := by simp [cc5]
theorem cc5_put (S : Nat → Nat) {x y : Nat} (h : x < 5) : (ra (cc5 S x y)).setIfInBounds x (.int .u64 ((pck S x y ^^^ S (x + 5 * y) : Nat) : Int)) = ra (cc5 S x (y + 1)) := by
  unfold ra
  rw [arr_set _ _ _ h]
  refine arr_congr fun k _ => ?_
  unfold cc5
  by_cases e : k = x
  · subst e; simp [pck]
  · simp [e]
theorem cc5_next (S : Nat → Nat) (x : Nat) : ra (cc5 S x 5) = ra (cc5 S (x + 1) 0) := arr_congr fun k _ => by
  unfold cc5
  by_cases e : k = x
  · subst e; simp [pc_col]
  · by_cases l : k < x
    · simp [l, show k < x + 1 by omega]
    · by_cases e2 : k = x + 1
      · subst e2; simp [pck]; omega
      · simp [e, l, e2, show ¬ k < x + 1 by omega]
theorem cc5_end (S : Nat → Nat) : ra (cc5 S 5 0) = ra (col S) := arr_congr fun k hk => by simp [cc5, hk]
theorem cc5_start (S : Nat → Nat) : ra (cc5 S 0 0) = zR := arr_congr fun k _ => by simp [cc5, pck]
theorem mvz_put (Z S : Nat → Nat) {k : Nat} (hk : k < 24) : (sa (mv Z S k)).setIfInBounds (pos (k + 1)) (.int .u64 ((rl (S (pos k)) ((k + 1) * (k + 2) / 2) : Nat) : Int)) = sa (mv Z S (k + 1)) := by
  rw [sa_set (pos_lt _ (by omega))]
  rfl
theorem ch_in {U : Nat → Nat} {x y : Nat} (hx : x < 5) : ch U (x + 5 * y) = U (x + 5 * y) ^^^ ((18446744073709551615 - U ((x + 1) % 5 + 5 * y)) &&& U ((x + 2) % 5 + 5 * y)) := by
  unfold ch
  rw [show (x + 5 * y) % 5 = x by omega, show (x + 5 * y) / 5 * 5 = 5 * y by omega, Nat.add_comm (5 * y), Nat.add_comm (5 * y)]
  rfl
theorem wrap_not {u q : Nat} (h : 18446744073709551615 - u = q) (hu : u < B) : IntKind.u64.wrap (18446744073709551615 - (u : Int)) = (q : Int) := by
  rw [IntKind.wrap_u64]
  simp only [B] at hu
  omega
/-- T in the columns ahead of x, and in column x ahead of y. -/
def fl (T : Nat → Nat) (x y i : Nat) : Nat := if i % 5 < x ∨ (i % 5 = x ∧ i / 5 < y) then T i else 0
theorem fl_put (T : Nat → Nat) {x y : Nat} (hx : x < 5) (hy : y < 5) : (sa (fl T x y)).setIfInBounds (x + 5 * y) (.int .u64 ((T (x + 5 * y) : Nat) : Int)) = sa (fl T x (y + 1)) := by
  rw [sa_set (by omega)]
  refine sa_congr fun i _ => ?_
  unfold fl
  by_cases e : i = x + 5 * y
  · subst e
    rw [if_pos rfl, if_pos (by omega)]
  · rw [if_neg e]
    by_cases h : i % 5 < x ∨ (i % 5 = x ∧ i / 5 < y)
    · rw [if_pos h, if_pos (by omega)]
    · rw [if_neg h, if_neg (by omega)]
theorem fl_next (T : Nat → Nat) (x : Nat) : sa (fl T x 5) = sa (fl T (x + 1) 0) := sa_congr fun i hi => by
  unfold fl
  by_cases h : i % 5 < x ∨ (i % 5 = x ∧ i / 5 < 5)
  · rw [if_pos h, if_pos (by omega)]
  · rw [if_neg h, if_neg (by omega)]
theorem fl_start (T : Nat → Nat) : sa (fl T 0 0) = zS := sa_congr fun i _ => by simp [fl]
theorem fl_end (T : Nat → Nat) : sa (fl T 5 0) = sa T := sa_congr fun i _ => by
  unfold fl
  rw [if_pos (by omega)]
set_option maxHeartbeats 4000000 in
theorem round_walk (S : Nat → Nat) (con : Nat) (w : World) (hS : okS S) (hcon : con < B) :
    Calls Tryd.prog 55 #[.agg (sa S), .int .u64 (con : Int)] w fun e w' => e = .returned (.agg (sa (rdk con S))) ∧ Below w.heap.size w w' := by
  have HS := Lib.hid hS
  have HCon := Lib.hid hcon
  clear hS hcon
  go_enter Tryd.func55, Tryd.ntmps55
  go_wp2_with (first | (refine wpList_alloc_row rfl 72 rfl zS zS_run ?_) | (refine wpList_alloc_row rfl 93 rfl zR zR_run ?_) | (refine wpList_build_zero rfl 93 rfl Tryd.underlying93 Tryd.sizeOf24 zR zR_run ?_) | (refine wpList_store_row rfl 93 _ _ rfl _ zR zR rfl rfl (heap_alloc_new _ _) (infoArrR _) rfl (arr_one _ _ _) ?_))
  have f0 : ((((w.alloc (.cells (sa S) 72)).alloc (.cells zS 72)).alloc (.cells zR 93)).setRow (w.heap.size + 1 + 1) zR).heap[w.heap.size]? = some (.cells (sa S) 72) := blk_row_other (blk_alloc (blk_alloc (heap_alloc_new _ _))) (by omega)
  have f1 : ((((w.alloc (.cells (sa S) 72)).alloc (.cells zS 72)).alloc (.cells zR 93)).setRow (w.heap.size + 1 + 1) zR).heap[w.heap.size + 1]? = some (.cells zS 72) := blk_row_other (blk_alloc (heap_alloc2_new _ _ _)) (by omega)
  have f2 : ((((w.alloc (.cells (sa S) 72)).alloc (.cells zS 72)).alloc (.cells zR 93)).setRow (w.heap.size + 1 + 1) zR).heap[w.heap.size + 1 + 1]? = some (.cells (ra (cc5 S 0 0)) 93) := by
    rw [cc5_start]
    refine blk_row (c := zR) ?_
    have := heap_alloc_new ((w.alloc (.cells (sa S) 72)).alloc (.cells zS 72)) (.cells zR 93)
    simpa using this
  have bW : Below w.heap.size w ((((w.alloc (.cells (sa S) 72)).alloc (.cells zS 72)).alloc (.cells zR 93)).setRow (w.heap.size + 1 + 1) zR) := below_setRow ((((Below.refl _ _).alloc (Nat.le_refl _) _).alloc (by simp) _).alloc (by simp; omega) _) (by omega) _
  generalize ((((w.alloc (.cells (sa S) 72)).alloc (.cells zS 72)).alloc (.cells zR 93)).setRow (w.heap.size + 1 + 1) zR) = W at *
  go_loopw [6] (fun i wr => ∃ x : Nat, x ≤ 5 ∧ i = .int .i64 x ∧ Below w.heap.size w wr ∧ wr.heap[w.heap.size]? = some (.cells (sa S) 72) ∧ wr.heap[w.heap.size + 1]? = some (.cells zS 72) ∧ wr.heap[w.heap.size + 1 + 1]? = some (.cells (ra (cc5 S x 0)) 93)) (fun i _ => 5 - (intOf i).toNat)
  case atStart => exact ⟨0, by omega, rfl, bW, f0, f1, f2⟩
  case round =>
    clear bW f0 f1 f2
    obtain ⟨x, hx, rfl, bW, f0, f1, f2⟩ := hrel
    by_cases hlt : x < 5
    · go_wp2_with fail
      go_loopw [7] (fun i wr => ∃ y : Nat, y ≤ 5 ∧ i = .int .i64 y ∧ Below w.heap.size w wr ∧ wr.heap[w.heap.size]? = some (.cells (sa S) 72) ∧ wr.heap[w.heap.size + 1]? = some (.cells zS 72) ∧ wr.heap[w.heap.size + 1 + 1]? = some (.cells (ra (cc5 S x y)) 93)) (fun i _ => 5 - (intOf i).toNat)
      case atStart => exact ⟨0, by omega, rfl, bW, f0, f1, f2⟩
      case round =>
        clear bW f0 f1 f2
        obtain ⟨y, hy, rfl, bW, f0, f1, f2⟩ := hrel
        have F0 := Lib.hid f0
        have F1 := Lib.hid f1
        have F2 := Lib.hid f2
        have HB := Lib.hid bW
        clear f0 f1 f2 bW
        by_cases hlty : y < 5
        · have hi : x + 5 * y < 25 := by omega
          have hxx : bits .xor .u64 ((pck S x y : Nat) : Int) ((S (x + 5 * y) : Nat) : Int) = ((pck S x y ^^^ S (x + 5 * y) : Nat) : Int) := xor_nat (pc_lt HS.out hlt y hy) (HS.out _ hi)
          go_wp2_with fail
          refine region_last2 (aQ := ?aQ) 12 (by kernel_rfl) (by kernel_rfl) (fun w1 => ?hq) (fun w0' hb' => ?hh)
          case hq =>
            have cg : ∀ g : Ext w1.on, g.on.cell? ⟨w.heap.size, x + 5 * y, none⟩ = some (.int .u64 ((S (x + 5 * y) : Nat) : Int)) := fun g =>
              blk_cell (g.block (w1.block F0.out)) (sa_get hi)
            have cc : ∀ g : Ext w1.on, g.on.cell? ⟨w.heap.size + 1 + 1, x, none⟩ = some (.int .u64 ((pck S x y : Nat) : Int)) := fun g => by
              have := blk_cell (g.block (w1.block F2.out)) (ra_get hlt)
              rwa [cc5_here] at this
            simp only [List.take_succ_cons, List.take_zero]
            repeat (go_big_quiet_step (fail))
            refine wpQuiet_nil ?_
            rfl
          have g0 := stay hb' F0.out
          have g1 := stay hb' F1.out
          have g2 := stay hb' F2.out
          replace HB := Lib.hid (HB.out.trans (hb'.mono HB.out.size))
          clear F0 F1 F2 hb'
          have cx := blk_cell g2 (ra_get hlt)
          have fz := blk_frozen (j := x) g2
          have h2 : (w0'.setCell ⟨w.heap.size + 1 + 1, x, none⟩ (.int .u64 ((pck S x y ^^^ S (x + 5 * y) : Nat) : Int))).heap[w.heap.size + 1 + 1]? = _ := blk_set g2 _
          rw [cc5_put S hlt] at h2
          have F0 := Lib.hid (blk_other (b := w.heap.size + 1 + 1) (j := x) g0 (by omega) (.int .u64 ((pck S x y ^^^ S (x + 5 * y) : Nat) : Int)))
          have F1 := Lib.hid (blk_other (b := w.heap.size + 1 + 1) (j := x) g1 (by omega) (.int .u64 ((pck S x y ^^^ S (x + 5 * y) : Nat) : Int)))
          have F2 := Lib.hid h2
          clear g0 g1 g2 h2 hxx
          simp only [List.drop_succ_cons, List.drop_zero]
          go_wp2_with fail
          exact ⟨⟨y + 1, by omega, by go_num, HB.out.setCell (by simp; omega) _, F0.out, F1.out, F2.out⟩, by simp [intOf]; omega⟩
        · obtain rfl : y = 5 := by omega
          go_wp2_with fail
          exact ⟨⟨x + 1, by omega, by go_num, HB.out, F0.out, F1.out, by rw [← cc5_next]; exact F2.out⟩, by simp [intOf]; omega⟩
    · obtain rfl : x = 5 := by omega
      rw [cc5_end] at f2
      go_wp2_with (first | (refine wpList_alloc_row rfl 72 rfl zS zS_run ?_) | (refine wpList_build_zero rfl 72 rfl Tryd.underlying72 Tryd.sizeOf24 zS zS_run ?_) | (refine wpList_store_row rfl 72 _ _ rfl _ zS zS rfl rfl (heap_alloc_new _ _) (infoArrS _) rfl (arr_one _ _ _) ?_))
      have hA : w.heap.size + 1 + 1 < wr.heap.size := (Array.getElem?_eq_some_iff.1 f2).1
      replace f0 : ((wr.alloc (.cells zS 72)).setRow wr.heap.size zS).heap[w.heap.size]? = some (.cells (sa S) 72) := blk_row_other (blk_alloc f0) (by omega)
      replace f1 : ((wr.alloc (.cells zS 72)).setRow wr.heap.size zS).heap[w.heap.size + 1]? = some (.cells zS 72) := blk_row_other (blk_alloc f1) (by omega)
      replace f2 : ((wr.alloc (.cells zS 72)).setRow wr.heap.size zS).heap[w.heap.size + 1 + 1]? = some (.cells (ra (col S)) 93) := blk_row_other (blk_alloc f2) (by omega)
      have f3 : ((wr.alloc (.cells zS 72)).setRow wr.heap.size zS).heap[wr.heap.size]? = some (.cells (sa (fl (th S) 0 0)) 72) := by rw [fl_start]; exact blk_row (heap_alloc_new _ _)
      replace bW : Below w.heap.size w ((wr.alloc (.cells zS 72)).setRow wr.heap.size zS) := below_setRow (bW.alloc bW.size _) (by omega) _
      generalize ((wr.alloc (.cells zS 72)).setRow wr.heap.size zS) = W1 at *
      obtain ⟨nA, hnA⟩ : ∃ nA, wr.heap.size = nA := ⟨_, rfl⟩
      rw [hnA] at f3 hA ⊢
      clear hnA
      go_loopw [9] (fun i wr => ∃ x : Nat, x ≤ 5 ∧ i = .int .i64 x ∧ Below w.heap.size w wr ∧ wr.heap[w.heap.size]? = some (.cells (sa S) 72) ∧ wr.heap[w.heap.size + 1]? = some (.cells zS 72) ∧ wr.heap[w.heap.size + 1 + 1]? = some (.cells (ra (col S)) 93) ∧ wr.heap[nA]? = some (.cells (sa (fl (th S) x 0)) 72)) (fun i _ => 5 - (intOf i).toNat)
      case atStart => exact ⟨0, by omega, rfl, bW, f0, f1, f2, f3⟩
      case round =>
        clear bW f0 f1 f2 f3
        obtain ⟨x, hx, rfl, bW, f0, f1, f2, f3⟩ := hrel
        by_cases hlt : x < 5
        · go_wp2_with fail
          go_loopw [10] (fun i wr => ∃ y : Nat, y ≤ 5 ∧ i = .int .i64 y ∧ Below w.heap.size w wr ∧ wr.heap[w.heap.size]? = some (.cells (sa S) 72) ∧ wr.heap[w.heap.size + 1]? = some (.cells zS 72) ∧ wr.heap[w.heap.size + 1 + 1]? = some (.cells (ra (col S)) 93) ∧ wr.heap[nA]? = some (.cells (sa (fl (th S) x y)) 72)) (fun i _ => 5 - (intOf i).toNat)
          case atStart => exact ⟨0, by omega, rfl, bW, f0, f1, f2, f3⟩
          case round =>
            clear bW f0 f1 f2 f3
            obtain ⟨y, hy, rfl, bW, f0, f1, f2, f3⟩ := hrel
            have F0 := Lib.hid f0
            have F1 := Lib.hid f1
            have F2 := Lib.hid f2
            have F3 := Lib.hid f3
            have HB := Lib.hid bW
            clear f0 f1 f2 f3 bW
            by_cases hlty : y < 5
            · have hi : x + 5 * y < 25 := by omega
              have h4 : (x + 4) % 5 < 5 := Nat.mod_lt _ (by decide)
              have h1 : (x + 1) % 5 < 5 := Nat.mod_lt _ (by decide)
              have v1 : bits .xor .u64 ((S (x + 5 * y) : Nat) : Int) ((col S ((x + 4) % 5) : Nat) : Int) = ((S (x + 5 * y) ^^^ col S ((x + 4) % 5) : Nat) : Int) := xor_nat (HS.out _ hi) (col_lt HS.out h4)
              have l0 : col S ((x + 1) % 5) < B := col_lt HS.out h1
              have v2 : bits .xor .u64 ((S (x + 5 * y) ^^^ col S ((x + 4) % 5) : Nat) : Int) ((rl (col S ((x + 1) % 5)) 1 : Nat) : Int) = ((th S (x + 5 * y) : Nat) : Int) := by
                rw [xor_nat (xor_lt (HS.out _ hi) (col_lt HS.out h4)) (rl_lt _ l0), th, show (x + 5 * y) % 5 = x by omega, Nat.xor_assoc]
              have e4 : ((x : Int) + 4) % 5 = (((x + 4) % 5 : Nat) : Int) := by omega
              have e1 : ((x : Int) + 1) % 5 = (((x + 1) % 5 : Nat) : Int) := by omega
              obtain ⟨k4, hk4⟩ : ∃ k4, (x + 4) % 5 = k4 := ⟨_, rfl⟩
              obtain ⟨k1, hk1⟩ : ∃ k1, (x + 1) % 5 = k1 := ⟨_, rfl⟩
              rw [hk4] at h4 v1 v2 e4
              rw [hk1] at h1 l0 v2 e1
              clear hk4 hk1
              go_wp2_with fail
              refine region_last2 (aQ := ?aQb) 24 (by kernel_rfl) (by kernel_rfl) (fun w1 => ?hqb) (fun w0' hb' => ?hhb)
              case hqb =>
                have cg : ∀ g : Ext w1.on, g.on.cell? ⟨w.heap.size, x + 5 * y, none⟩ = some (.int .u64 ((S (x + 5 * y) : Nat) : Int)) := fun g =>
                  blk_cell (g.block (w1.block F0.out)) (sa_get hi)
                have cc : ∀ g : Ext w1.on, g.on.cell? ⟨w.heap.size + 1 + 1, k4, none⟩ = some (.int .u64 ((col S k4 : Nat) : Int)) := fun g => blk_cell (g.block (w1.block F2.out)) (ra_get h4)
                have cd : ∀ g : Ext w1.on, g.on.cell? ⟨w.heap.size + 1 + 1, k1, none⟩ = some (.int .u64 ((col S k1 : Nat) : Int)) := fun g => blk_cell (g.block (w1.block F2.out)) (ra_get h1)
                simp only [List.take_succ_cons, List.take_zero]
                repeat (go_big_quiet_step ((go_at_call 62; exact calls_ext (up_rot _ 1 _ l0 (by decide)))))
                refine wpQuiet_nil ?_
                rfl
              have g0 := stay hb' F0.out
              have g1 := stay hb' F1.out
              have g2 := stay hb' F2.out
              have g3 := stay hb' F3.out
              replace HB := Lib.hid (HB.out.trans (hb'.mono HB.out.size))
              clear F0 F1 F2 F3 hb'
              have cx := blk_cell g3 (sa_get hi)
              have fz := blk_frozen (j := x + 5 * y) g3
              have h3 : (w0'.setCell ⟨nA, x + 5 * y, none⟩ (.int .u64 ((th S (x + 5 * y) : Nat) : Int))).heap[nA]? = _ := blk_set g3 _
              rw [fl_put _ hlt hlty] at h3
              have F0 := Lib.hid (blk_other (b := nA) (j := x + 5 * y) g0 (by omega) (.int .u64 ((th S (x + 5 * y) : Nat) : Int)))
              have F1 := Lib.hid (blk_other (b := nA) (j := x + 5 * y) g1 (by omega) (.int .u64 ((th S (x + 5 * y) : Nat) : Int)))
              have F2 := Lib.hid (blk_other (b := nA) (j := x + 5 * y) g2 (by omega) (.int .u64 ((th S (x + 5 * y) : Nat) : Int)))
              have F3 := Lib.hid h3
              clear g0 g1 g2 g3 h3 v1 v2 e4 e1
              simp only [List.drop_succ_cons, List.drop_zero]
              go_wp2_with fail
              exact ⟨⟨y + 1, by omega, by go_num, HB.out.setCell (by simp; omega) _, F0.out, F1.out, F2.out, F3.out⟩, by simp [intOf]; omega⟩
            · obtain rfl : y = 5 := by omega
              go_wp2_with fail
              exact ⟨⟨x + 1, by omega, by go_num, HB.out, F0.out, F1.out, F2.out, by rw [← fl_next]; exact F3.out⟩, by simp [intOf]; omega⟩
        · obtain rfl : x = 5 := by omega
          rw [fl_end] at f3
          have hT := th_lt HS.out
          have HE : Hid (rdk con S = io con (ch (rp (th S)))) := Lib.hid rfl
          clear f2
          generalize th S = T at *
          have hB : nA < wr.heap.size := (Array.getElem?_eq_some_iff.1 f3).1
          replace f1 : ((wr.alloc (.cells zS 72)).setRow wr.heap.size zS).heap[w.heap.size + 1]? = some (.cells zS 72) := blk_row_other (blk_alloc f1) (by omega)
          replace f3 : ((wr.alloc (.cells zS 72)).setRow wr.heap.size zS).heap[nA]? = some (.cells (sa T) 72) := blk_row_other (blk_alloc f3) (by omega)
          have f4 : ((wr.alloc (.cells zS 72)).setRow wr.heap.size zS).heap[wr.heap.size]? = some (.cells zS 72) := blk_row (heap_alloc_new _ _)
          replace bW : Below w.heap.size w ((wr.alloc (.cells zS 72)).setRow wr.heap.size zS) := below_setRow (bW.alloc bW.size _) (by omega) _
          have F1 := Lib.hid f1
          have F3 := Lib.hid f3
          have F4 := Lib.hid f4
          have HB := Lib.hid bW
          clear f0 f1 f3 f4 bW
          go_upto_region 18 with (first | (refine wpList_alloc_row rfl 72 rfl zS zS_run ?_) | (refine wpList_build_zero rfl 72 rfl Tryd.underlying72 Tryd.sizeOf24 zS zS_run ?_) | (refine wpList_store_row rfl 72 _ _ rfl _ zS zS rfl rfl (heap_alloc_new _ _) (infoArrS _) rfl (arr_one _ _ _) ?_))
          generalize ((wr.alloc (.cells zS 72)).setRow wr.heap.size zS) = W2 at *
          obtain ⟨nB, hnB⟩ : ∃ nB, wr.heap.size = nB := ⟨_, rfl⟩
          rw [hnB] at F4 hB ⊢
          clear hnB
          have c3 := blk_cell F3.out (sa_get (S := T) (i := 0) (by omega))
          have c4 := blk_cell F4.out (sa_get (S := fun _ => 0) (i := 0) (by omega))
          have fz := blk_frozen (j := 0) F4.out
          have h4 : (W2.setCell ⟨nB, 0, none⟩ (.int .u64 ((T 0 : Nat) : Int))).heap[nB]? = _ := blk_set F4.out _
          rw [zS, sa_set (by omega)] at h4
          replace F4 := Lib.hid h4
          replace F1 := Lib.hid (blk_other (b := nB) (j := 0) F1.out (by omega) (.int .u64 ((T 0 : Nat) : Int)))
          replace F3 := Lib.hid (blk_other (b := nB) (j := 0) F3.out (by omega) (.int .u64 ((T 0 : Nat) : Int)))
          replace HB := Lib.hid (HB.out.setCell (p := ⟨nB, 0, none⟩) (by simp; omega) (.int .u64 ((T 0 : Nat) : Int)))
          clear h4
          go_upto_region 19 with fail
          clear c3 c4 fz
          obtain ⟨Z, hZ⟩ : ∃ Z : Nat → Nat, Z = fun j => if j = 0 then T 0 else (fun _ => 0) j := ⟨_, rfl⟩
          rw [← hZ] at F4
          have hZ0 : Hid (Z 0 = T 0) := Lib.hid (by rw [hZ]; rfl)
          clear hZ
          generalize W2.setCell ⟨nB, 0, none⟩ (.int .u64 ((T 0 : Nat) : Int)) = W3 at *
          go_wp2_with fail
          go_loopw [12, 13, 14] (fun xv yv i wr => ∃ k X Y : Nat, k ≤ 24 ∧ i = .int .i64 k ∧ xv = .int .i64 X ∧ yv = .int .i64 Y ∧ Hid (pos k % 5 = X) ∧ Hid (pos k / 5 = Y) ∧ Below w.heap.size w wr ∧ wr.heap[w.heap.size + 1]? = some (.cells zS 72) ∧ wr.heap[nA]? = some (.cells (sa T) 72) ∧ wr.heap[nB]? = some (.cells (sa (mv Z T k)) 72)) (fun _ _ i _ => 24 - (intOf i).toNat)
          case atStart => exact ⟨0, 1, 0, by omega, rfl, rfl, rfl, Lib.hid rfl, Lib.hid rfl, HB.out, F1.out, F3.out, F4.out⟩
          case round =>
            clear HB F1 F3 F4
            obtain ⟨k, X, Y, hk, rfl, rfl, rfl, hX, hY, bW, f1, f3, f4⟩ := hrel
            have F1 := Lib.hid f1
            have F3 := Lib.hid f3
            have F4 := Lib.hid f4
            have HB := Lib.hid bW
            clear f1 f3 f4 bW
            by_cases hltk : k < 24
            · have hp := pos_lt k (by omega)
              have hp1 := pos_lt (k + 1) (by omega)
              have hr := pos_rule k hltk
              rw [hX.out, hY.out] at hr
              have hXY : X + 5 * Y = pos k := by rw [← hX.out, ← hY.out]; omega
              have hX5 : X < 5 := by rw [← hX.out]; omega
              have hY5 : Y < 5 := by rw [← hY.out]; omega
              have eN : (2 * (X : Int) + 3 * (Y : Int)) % 5 = (((2 * X + 3 * Y) % 5 : Nat) : Int) := by omega
              obtain ⟨N, hN⟩ : ∃ N, (2 * X + 3 * Y) % 5 = N := ⟨_, rfl⟩
              have hN5 : N < 5 := by omega
              rw [hN] at eN hr
              obtain ⟨m, hm⟩ : ∃ m, (k + 1) * (k + 2) = m := ⟨_, rfl⟩
              have hm6 : m ≤ 600 := by rw [← hm]; exact tri_le k hltk
              have hmI : ((k : Int) + 1) * ((k : Int) + 2) = (m : Int) := by rw [← hm]; simp
              have l0 : T (X + 5 * Y) < B := by rw [hXY]; exact hT _ hp
              have c3 := blk_cell F3.out (sa_get (S := T) (i := X + 5 * Y) (by omega))
              have c4 := blk_cell F4.out (sa_get (S := mv Z T k) (i := Y + 5 * N) (by omega))
              have fz := blk_frozen (j := Y + 5 * N) F4.out
              have HM := Lib.hid hm
              have HN := Lib.hid hN
              have HXY := Lib.hid hXY
              have HRr := Lib.hid hr
              clear hm hN hXY hr hp hp1
              go_wp2_with fail
              refine (up_rot _ (m / 2) _ l0 (by omega)).mono ?_
              rintro e w4 ⟨rfl, b4⟩
              have g1 := stay b4 F1.out
              have g3 := stay b4 F3.out
              have g4 := stay b4 F4.out
              replace HB := Lib.hid (HB.out.trans (b4.mono HB.out.size))
              clear F1 F3 F4 b4 c3 c4 fz
              have cx := blk_cell g4 (sa_get (S := mv Z T k) (i := Y + 5 * N) (by omega))
              have fz := blk_frozen (j := Y + 5 * N) g4
              have h4 : (w4.setCell ⟨nB, Y + 5 * N, none⟩ (.int .u64 ((rl (T (X + 5 * Y)) (m / 2) : Nat) : Int))).heap[nB]? = _ := blk_set g4 _
              rw [HXY.out, ← HM.out, ← HRr.out, mvz_put Z T hltk, HRr.out, HM.out, ← HXY.out] at h4
              have F1 := Lib.hid (blk_other (b := nB) (j := Y + 5 * N) g1 (by omega) (.int .u64 ((rl (T (X + 5 * Y)) (m / 2) : Nat) : Int)))
              have F3 := Lib.hid (blk_other (b := nB) (j := Y + 5 * N) g3 (by omega) (.int .u64 ((rl (T (X + 5 * Y)) (m / 2) : Nat) : Int)))
              have F4 := Lib.hid h4
              have hX' : Hid (pos (k + 1) % 5 = Y) := Lib.hid (by rw [HRr.out]; omega)
              have hY' : Hid (pos (k + 1) / 5 = N) := Lib.hid (by rw [HRr.out]; omega)
              clear g1 g3 g4 h4 hmI
              go_wp2_with fail
              exact ⟨⟨k + 1, Y, N, by omega, by go_num, rfl, by rw [eN], hX', hY', HB.out.setCell (by simp; omega) _, F1.out, F3.out, F4.out⟩, by simp [intOf]; omega⟩
            · obtain rfl : k = 24 := by omega
              have hm : sa (mv Z T 24) = sa (rp T) := sa_congr fun i hi => mv_any Z T hZ0.out hi
              rw [hm] at F4
              have hU : okS (rp T) := mv_lt hT hT 24 (by omega)
              clear hm hX hY F3
              generalize rp T = U at *
              have hC : nB < wr.heap.size := (Array.getElem?_eq_some_iff.1 F4.out).1
              have f1 : ((wr.alloc (.cells zS 72)).setRow wr.heap.size zS).heap[w.heap.size + 1]? = some (.cells zS 72) := blk_row_other (blk_alloc F1.out) (by omega)
              have f4 : ((wr.alloc (.cells zS 72)).setRow wr.heap.size zS).heap[nB]? = some (.cells (sa U) 72) := blk_row_other (blk_alloc F4.out) (by omega)
              have f5 : ((wr.alloc (.cells zS 72)).setRow wr.heap.size zS).heap[wr.heap.size]? = some (.cells (sa (fl (ch U) 0 0)) 72) := by rw [fl_start]; exact blk_row (heap_alloc_new _ _)
              have bW : Below w.heap.size w ((wr.alloc (.cells zS 72)).setRow wr.heap.size zS) := below_setRow (HB.out.alloc HB.out.size _) (by omega) _
              clear HB F1 F4
              go_wp2_with (first | (refine wpList_alloc_row rfl 72 rfl zS zS_run ?_) | (refine wpList_build_zero rfl 72 rfl Tryd.underlying72 Tryd.sizeOf24 zS zS_run ?_) | (refine wpList_store_row rfl 72 _ _ rfl _ zS zS rfl rfl (heap_alloc_new _ _) (infoArrS _) rfl (arr_one _ _ _) ?_))
              generalize ((wr.alloc (.cells zS 72)).setRow wr.heap.size zS) = W4 at *
              obtain ⟨nC, hnC⟩ : ∃ nC, wr.heap.size = nC := ⟨_, rfl⟩
              rw [hnC] at f5 hC ⊢
              clear hnC
              go_loopw [17] (fun i wr => ∃ x : Nat, x ≤ 5 ∧ i = .int .i64 x ∧ Below w.heap.size w wr ∧ wr.heap[w.heap.size + 1]? = some (.cells zS 72) ∧ wr.heap[nB]? = some (.cells (sa U) 72) ∧ wr.heap[nC]? = some (.cells (sa (fl (ch U) x 0)) 72)) (fun i _ => 5 - (intOf i).toNat)
              case atStart => exact ⟨0, by omega, rfl, bW, f1, f4, f5⟩
              case round =>
                clear bW f1 f4 f5
                obtain ⟨x, hx, rfl, bW, f1, f4, f5⟩ := hrel
                by_cases hlt : x < 5
                · go_wp2_with fail
                  go_loopw [18] (fun i wr => ∃ y : Nat, y ≤ 5 ∧ i = .int .i64 y ∧ Below w.heap.size w wr ∧ wr.heap[w.heap.size + 1]? = some (.cells zS 72) ∧ wr.heap[nB]? = some (.cells (sa U) 72) ∧ wr.heap[nC]? = some (.cells (sa (fl (ch U) x y)) 72)) (fun i _ => 5 - (intOf i).toNat)
                  case atStart => exact ⟨0, by omega, rfl, bW, f1, f4, f5⟩
                  case round =>
                    clear bW f1 f4 f5
                    obtain ⟨y, hy, rfl, bW, f1, f4, f5⟩ := hrel
                    have F1 := Lib.hid f1
                    have F4 := Lib.hid f4
                    have F5 := Lib.hid f5
                    have HB := Lib.hid bW
                    clear f1 f4 f5 bW
                    by_cases hlty : y < 5
                    · have hi : x + 5 * y < 25 := by omega
                      have h1 : (x + 1) % 5 < 5 := Nat.mod_lt _ (by decide)
                      have h2 : (x + 2) % 5 < 5 := Nat.mod_lt _ (by decide)
                      have e1 : ((x : Int) + 1) % 5 = (((x + 1) % 5 : Nat) : Int) := by omega
                      have e2 : ((x : Int) + 2) % 5 = (((x + 2) % 5 : Nat) : Int) := by omega
                      have hcc := ch_in (U := U) (y := y) hlt
                      obtain ⟨k1, hk1⟩ : ∃ k1, (x + 1) % 5 = k1 := ⟨_, rfl⟩
                      obtain ⟨k2, hk2⟩ : ∃ k2, (x + 2) % 5 = k2 := ⟨_, rfl⟩
                      rw [hk1] at h1 e1 hcc
                      rw [hk2] at h2 e2 hcc
                      obtain ⟨q, hq⟩ : ∃ q, 18446744073709551615 - U (k1 + 5 * y) = q := ⟨_, rfl⟩
                      rw [hq] at hcc
                      have hqB : q < B := by simp only [B]; omega
                      have u1 := wrap_not hq (hU _ (by omega))
                      have u2 : bits .and .u64 ((q : Nat) : Int) ((U (k2 + 5 * y) : Nat) : Int) = ((q &&& U (k2 + 5 * y) : Nat) : Int) := u64_and_nat _ _ hqB (hU _ (by omega))
                      have u3 : bits .xor .u64 ((U (x + 5 * y) : Nat) : Int) ((q &&& U (k2 + 5 * y) : Nat) : Int) = ((ch U (x + 5 * y) : Nat) : Int) := by
                        rw [hcc]
                        exact xor_nat (hU _ hi) (and_lt hqB)
                      clear hk1 hk2 hq hqB hcc
                      go_wp2_with fail
                      refine region_last2 (aQ := ?aQc) 30 (by kernel_rfl) (by kernel_rfl) (fun w1 => ?hqc) (fun w0' hb' => ?hhc)
                      case hqc =>
                        have ca : ∀ g : Ext w1.on, g.on.cell? ⟨nB, x + 5 * y, none⟩ = some (.int .u64 ((U (x + 5 * y) : Nat) : Int)) := fun g => blk_cell (g.block (w1.block F4.out)) (sa_get hi)
                        have cb : ∀ g : Ext w1.on, g.on.cell? ⟨nB, k1 + 5 * y, none⟩ = some (.int .u64 ((U (k1 + 5 * y) : Nat) : Int)) := fun g => blk_cell (g.block (w1.block F4.out)) (sa_get (by omega))
                        have cc : ∀ g : Ext w1.on, g.on.cell? ⟨nB, k2 + 5 * y, none⟩ = some (.int .u64 ((U (k2 + 5 * y) : Nat) : Int)) := fun g => blk_cell (g.block (w1.block F4.out)) (sa_get (by omega))
                        simp only [List.take_succ_cons, List.take_zero]
                        repeat (go_big_quiet_step (fail))
                        refine wpQuiet_nil ?_
                        rfl
                      have g1 := stay hb' F1.out
                      have g4 := stay hb' F4.out
                      have g5 := stay hb' F5.out
                      replace HB := Lib.hid (HB.out.trans (hb'.mono HB.out.size))
                      clear F1 F4 F5 hb'
                      have cx := blk_cell g5 (sa_get hi)
                      have fz := blk_frozen (j := x + 5 * y) g5
                      have h5 : (w0'.setCell ⟨nC, x + 5 * y, none⟩ (.int .u64 ((ch U (x + 5 * y) : Nat) : Int))).heap[nC]? = _ := blk_set g5 _
                      rw [fl_put _ hlt hlty] at h5
                      have F1 := Lib.hid (blk_other (b := nC) (j := x + 5 * y) g1 (by omega) (.int .u64 ((ch U (x + 5 * y) : Nat) : Int)))
                      have F4 := Lib.hid (blk_other (b := nC) (j := x + 5 * y) g4 (by omega) (.int .u64 ((ch U (x + 5 * y) : Nat) : Int)))
                      have F5 := Lib.hid h5
                      clear g1 g4 g5 h5 u1 u2 u3 e1 e2
                      simp only [List.drop_succ_cons, List.drop_zero]
                      go_wp2_with fail
                      exact ⟨⟨y + 1, by omega, by go_num, HB.out.setCell (by simp; omega) _, F1.out, F4.out, F5.out⟩, by simp [intOf]; omega⟩
                    · obtain rfl : y = 5 := by omega
                      go_wp2_with fail
                      exact ⟨⟨x + 1, by omega, by go_num, HB.out, F1.out, F4.out, by rw [← fl_next]; exact F5.out⟩, by simp [intOf]; omega⟩
                · obtain rfl : x = 5 := by omega
                  rw [fl_end] at f5
                  have hxx : bits .xor .u64 ((ch U 0 : Nat) : Int) ((con : Nat) : Int) = ((ch U 0 ^^^ con : Nat) : Int) := xor_nat (ch_lt hU 0 (by omega)) HCon.out
                  have c5 := blk_cell f5 (sa_get (S := ch U) (i := 0) (by omega))
                  have fz := blk_frozen (j := 0) f5
                  have h5 : (wr.setCell ⟨nC, 0, none⟩ (.int .u64 ((ch U 0 ^^^ con : Nat) : Int))).heap[nC]? = _ := blk_set f5 _
                  rw [io_put, ← HE.out] at h5
                  have F1 := Lib.hid (blk_other (b := nC) (j := 0) f1 (by omega) (.int .u64 ((ch U 0 ^^^ con : Nat) : Int)))
                  have F5 := Lib.hid h5
                  have HB := Lib.hid (bW.setCell (p := ⟨nC, 0, none⟩) (by simp; omega) (.int .u64 ((ch U 0 ^^^ con : Nat) : Int)))
                  clear f1 f4 f5 h5 bW
                  go_upto_region 37 with fail
                  clear c5 fz hxx
                  generalize wr.setCell ⟨nC, 0, none⟩ (.int .u64 ((ch U 0 ^^^ con : Nat) : Int)) = W5 at *
                  go_wp2_with (first | (refine wpList_load_row rfl 72 _ rfl _ rfl 72 (sa (rdk con S)) (0, 0) _ F5.out Tryd.underlying72 rfl (infoArrS _) ?_) | (refine wpList_store_row rfl 72 _ _ rfl _ zS (sa (rdk con S)) rfl rfl F1.out (infoArrS _) rfl (arr_one _ _ _) ?_))
                  refine bodyPost_ret (v := .agg (sa (rdk con S))) (results_cell_row rfl _ _ _ 72 (sa (rdk con S)) (0, 0) _ rfl (blk_row F1.out) Tryd.underlying72 rfl (infoArrS _)) rfl ⟨rfl, below_setRow HB.out (by omega) _⟩
end Go.Proofs.YtmcbaolecmkpdaaDoor
/- What the function Turn of the document's own answers for keccak does: 24 rounds. -/
namespace Go.Proofs.YtmcbaolecmkpdaaDoor
open Go.RowKit SmWord
set_option maxRecDepth 100000

set_option maxHeartbeats 2000000 in
theorem rturn_walk (S : Nat → Nat) (w : World) (hS : okS S) :
    Calls Tryd.prog 42 #[.agg (sa S)] w fun e w' => e = .returned (.agg (sa (tn S 24))) ∧ Below w.heap.size w w' := by
  have HS := Lib.hid hS
  clear hS
  go_enter Tryd.func42, Tryd.ntmps42
  go_wp2_with (first | (refine wpList_alloc_row rfl 72 rfl zS zS_run ?_))
  have f0 : ((w.alloc (.cells (sa S) 72)).alloc (.cells zS 72)).heap[w.heap.size]? = some (.cells (sa S) 72) := blk_alloc (heap_alloc_new _ _)
  have f1 : ((w.alloc (.cells (sa S) 72)).alloc (.cells zS 72)).heap[w.heap.size + 1]? = some (.cells zS 72) := heap_alloc2_new _ _ _
  have bW : Below w.heap.size w ((w.alloc (.cells (sa S) 72)).alloc (.cells zS 72)) := ((Below.refl _ _).alloc (Nat.le_refl _) _).alloc (by simp) _
  generalize ((w.alloc (.cells (sa S) 72)).alloc (.cells zS 72)) = W at *
  have F0 := Lib.hid f0
  have F1 := Lib.hid f1
  have HB := Lib.hid bW
  clear f0 f1 bW
  refine (const_walk W).mono ?_
  rintro e w1 ⟨rfl, b1⟩
  replace F0 := Lib.hid (stay b1 F0.out)
  replace F1 := Lib.hid (stay b1 F1.out)
  replace HB := Lib.hid (HB.out.trans (b1.mono HB.out.size))
  have h1 : w.heap.size + 1 < w1.heap.size := (Array.getElem?_eq_some_iff.1 F1.out).1
  clear b1
  have WWf0 : ((w1.alloc (.cells zC 87)).setRow w1.heap.size (ca kc)).heap[w.heap.size]? = some (.cells (sa (tn S 0)) 72) := blk_row_other (blk_alloc F0.out) (by omega)
  have WWf1 : ((w1.alloc (.cells zC 87)).setRow w1.heap.size (ca kc)).heap[w.heap.size + 1]? = some (.cells zS 72) := blk_row_other (blk_alloc F1.out) (by omega)
  have WWf2 : ((w1.alloc (.cells zC 87)).setRow w1.heap.size (ca kc)).heap[w1.heap.size]? = some (.cells (ca kc) 87) := blk_row (heap_alloc_new _ _)
  have bW : Below w.heap.size w ((w1.alloc (.cells zC 87)).setRow w1.heap.size (ca kc)) := below_setRow (HB.out.alloc HB.out.size _) (by omega) _
  clear HB F0 F1
  go_wp2_with (first | (refine wpList_alloc_row rfl 87 rfl zC zC_run ?_) | (refine wpList_store_row rfl 87 _ _ rfl _ zC (ca kc) rfl rfl (heap_alloc_new _ _) (infoArrC _) rfl (arr_one _ _ _) ?_))
  generalize ((w1.alloc (.cells zC 87)).setRow w1.heap.size (ca kc)) = W1 at *
  obtain ⟨nC, hnC⟩ : ∃ nC, w1.heap.size = nC := ⟨_, rfl⟩
  rw [hnC] at WWf2 h1 ⊢
  clear hnC
  go_loopw [4] (fun i wr => ∃ k : Nat, k ≤ 24 ∧ i = .int .i64 k ∧ Below w.heap.size w wr ∧ wr.heap[w.heap.size]? = some (.cells (sa (tn S k)) 72) ∧ wr.heap[w.heap.size + 1]? = some (.cells zS 72) ∧ wr.heap[nC]? = some (.cells (ca kc) 87)) (fun i _ => 24 - (intOf i).toNat)
  case atStart => exact ⟨0, by omega, rfl, bW, WWf0, WWf1, WWf2⟩
  case round =>
    clear bW WWf0 WWf1 WWf2
    obtain ⟨k, hk, rfl, bW, f0, f1, f2⟩ := hrel
    by_cases hlt : k < 24
    · obtain ⟨T, hTk⟩ : ∃ T, T = tn S k := ⟨_, rfl⟩
      have hok : okS T := by rw [hTk]; exact tn_lt HS.out k hk
      rw [← hTk] at f0
      have HK := Lib.hid hTk
      have HO := Lib.hid hok
      have F0 := Lib.hid f0
      have F1 := Lib.hid f1
      have F2 := Lib.hid f2
      have HB := Lib.hid bW
      have hkc := kc_lt k hlt
      clear hTk hok f0 f1 f2 bW
      go_wp2_with fail
      refine region_last2 (aQ := ?aQ) 5 (by kernel_rfl) (by kernel_rfl) (fun w1 => ?hq) (fun w0' hb' => ?hh)
      case hq =>
        have ck : ∀ g : Ext w1.on, g.on.cell? ⟨nC, k, none⟩ = some (.int .u64 ((kc k : Nat) : Int)) := fun g => blk_cell (g.block (w1.block F2.out)) (arr_get .u64 (fun i => ((kc i : Nat) : Int)) hlt)
        simp only [List.take_succ_cons, List.take_zero]
        repeat (first | (go_big_quiet_want; refine quiet_load_row 72 _ rfl _ (sa T) rfl (fun w2 hw2 => by obtain ⟨g, rfl⟩ := hw2; exact g.block (w1.block F0.out)) Tryd.underlying72 (infoArrS _) ?_; simp only [Act.put, List.setIfInBounds_toArray, List.set_cons_succ, List.set_cons_zero]; go_big_quiet_on) | go_big_quiet_step ((go_at_call 55; exact calls_ext (round_walk T (kc k) _ HO.out hkc))))
        refine wpQuiet_nil ?_
        rfl
      have g0 := stay hb' F0.out
      have g1 := stay hb' F1.out
      have g2 := stay hb' F2.out
      replace HB := Lib.hid (HB.out.trans (hb'.mono HB.out.size))
      clear F0 F1 F2 hb'
      have F0 := Lib.hid (blk_row (c' := sa (rdk (kc k) T)) g0)
      have F1 := Lib.hid (blk_row_other (b := w.heap.size) (c' := sa (rdk (kc k) T)) g1 (by omega))
      have F2 := Lib.hid (blk_row_other (b := w.heap.size) (c' := sa (rdk (kc k) T)) g2 (by omega))
      simp only [List.drop_succ_cons, List.drop_zero]
      refine wpList_store_row rfl 72 _ _ rfl _ (sa T) (sa (rdk (kc k) T)) rfl rfl g0 (infoArrS _) rfl (arr_one _ _ _) ?_
      refine wpList_nil ?_
      clear g0 g1 g2
      go_wp2_with fail
      exact ⟨⟨k + 1, by omega, by go_num, below_setRow HB.out (Nat.le_refl _) _, by rw [tn, ← HK.out]; exact F0.out, F1.out, F2.out⟩, by simp [intOf]; omega⟩
    · obtain rfl : k = 24 := by omega
      have HB := Lib.hid bW
      clear bW f2
      go_wp2_with (first | (refine wpList_load_row rfl 72 _ rfl _ rfl 72 (sa (tn S 24)) (0, 0) _ f0 Tryd.underlying72 rfl (infoArrS _) ?_) | (refine wpList_store_row rfl 72 _ _ rfl _ zS (sa (tn S 24)) rfl rfl f1 (infoArrS _) rfl (arr_one _ _ _) ?_))
      refine bodyPost_ret (v := .agg (sa (tn S 24))) (results_cell_row rfl _ _ _ 72 (sa (tn S 24)) (0, 0) _ rfl (blk_row f1) Tryd.underlying72 rfl (infoArrS _)) rfl ⟨rfl, below_setRow HB.out (by omega) _⟩
end Go.Proofs.YtmcbaolecmkpdaaDoor
