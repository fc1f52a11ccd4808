/- What the method takeOff of package modexp's ring does. -/
import Derived.Test.YtihefgpicnhdjaaDoorG4
import Derived.Deep.CutBlock
import Derived.Deep.RegionWith
import Derived.Deep.DeepCutAuto
import Derived.Laws.CopyOwn
import Derived.Test.YtihefgpicnhdjaaDoorG2
namespace Go.Proofs.YtihefgpicnhdjaaDoor
open Go.RowKit SmWord
set_option maxRecDepth 100000

/-- The ring of the modulus m, that is shifted up by s bits, of k parts, lies in block b. -/
structure Rg (w : World) (b m s k : Nat) : Prop where
  here : b < w.heap.size
  parts : ∀ i, i < 8 → w.cell? ⟨b, i, none⟩ = some (.int .u64 ((lb m i : Nat) : Int))
  shift : w.cell? ⟨b, 8, none⟩ = some (.int .u64 (s : Int))
  size : w.cell? ⟨b, 9, none⟩ = some (.int .i64 (k : Int))
  lt : m < B ^ k
  top : B ^ k ≤ 2 * m
  pos : 1 ≤ k
  most : k ≤ 8
  low : s ≤ 63
theorem Rg.us {w : World} {b m s k : Nat} (h : Rg w b m s k) : Us w b 0 k (lb m) := ⟨fun i _ => lb_lt _ _, h.here, fun i hi => by rw [Nat.zero_add]; exact h.parts i (by have := h.most; omega)⟩
theorem Rg.wrote {w w' : World} {b m s k c : Nat} (h : Rg w b m s k) (hw : Wrote c w w') (hne : b ≠ c) : Rg w' b m s k :=
  ⟨Nat.lt_of_lt_of_le h.here hw.size, fun i hi => (hw.cell (p := ⟨b, i, none⟩) h.here hne).trans (h.parts i hi), (hw.cell (p := ⟨b, 8, none⟩) h.here hne).trans h.shift, (hw.cell (p := ⟨b, 9, none⟩) h.here hne).trans h.size, h.lt, h.top, h.pos, h.most, h.low⟩
theorem Rg.below {w w' : World} {b m s k : Nat} (h : Rg w b m s k) (hw : Below w.heap.size w w') : Rg w' b m s k :=
  ⟨Nat.lt_of_lt_of_le h.here hw.size, fun i hi => (hw.cell (p := ⟨b, i, none⟩) h.here).trans (h.parts i hi), (hw.cell (p := ⟨b, 8, none⟩) h.here).trans h.shift, (hw.cell (p := ⟨b, 9, none⟩) h.here).trans h.size, h.lt, h.top, h.pos, h.most, h.low⟩
theorem Rg.drew {w : World} {b m s k : Nat} (h : Rg w b m s k) : Rg w.drew b m s k := ⟨h.here, h.parts, h.shift, h.size, h.lt, h.top, h.pos, h.most, h.low⟩
theorem Rg.vp {w : World} {b m s k : Nat} (h : Rg w b m s k) : vp (lb m) 0 k = m := by rw [vp_lb, Nat.mod_eq_of_lt h.lt]

/-- What is cut out of an array. -/
theorem arr_upto {P : Program} {t : TypeId} {L : Nat} (ht : P.underlying t = some (.array (P.arrayLen t) (P.elem t))) (hs : ∀ w, (sizeOf (P.elem t)).run P w = .ok 1 w) (hL : P.arrayLen t = L) (b : Nat) {q : Nat} (hq : q ≤ L) (w : World) :
    (Instr.sliceAt t (.pointer (some ⟨b, 0, none⟩)) none (some (.int .i64 (q : Int))) none).run P w = .ok (.slice (some ⟨b, 0, none⟩) q L) w := by
  rw [run_sliceAt_array_h w t _ ht .i64 (q : Int) (by omega) (by rw [hL]; omega), hs, hL]
  simp only [Result.andThen_ok, slicedAt, Int.toNat_natCast]
  have hadd : (⟨b, 0, none⟩ : Addr).add 0 = ⟨b, 0, none⟩ := by unfold Addr.add; split <;> simp_all
  simp [hadd]
theorem arr_mid {P : Program} {t : TypeId} {L : Nat} (ht : P.underlying t = some (.array (P.arrayLen t) (P.elem t))) (hs : ∀ w, (sizeOf (P.elem t)).run P w = .ok 1 w) (hL : P.arrayLen t = L) (b : Nat) {p q : Nat} (hp : p ≤ q) (hq : q ≤ L) (h0 : p < L) (w : World) :
    (Instr.sliceAt t (.pointer (some ⟨b, 0, none⟩)) (some (.int .i64 (p : Int))) (some (.int .i64 (q : Int))) none).run P w = .ok (.slice (some ⟨b, p, none⟩) (q - p) (L - p)) w := by
  rw [run_sliceAt_array_lh w t _ ht .i64 .i64 (p : Int) (q : Int) (by omega) (by omega) (by rw [hL]; omega), hs, hL]
  simp only [Result.andThen_ok, slicedAt, Int.toNat_natCast]
  have hadd : (⟨b, 0, none⟩ : Addr).add p = ⟨b, p, none⟩ := by unfold Addr.add; split <;> simp_all
  simp [hadd]
  omega
theorem arr_all {P : Program} {t : TypeId} {L : Nat} (ht : P.underlying t = some (.array (P.arrayLen t) (P.elem t))) (hs : ∀ w, (sizeOf (P.elem t)).run P w = .ok 1 w) (hL : P.arrayLen t = L) (b : Nat) (w : World) :
    (Instr.sliceAt t (.pointer (some ⟨b, 0, none⟩)) none none none).run P w = .ok (.slice (some ⟨b, 0, none⟩) L L) w := by
  rw [run_sliceAt_array_all w t _ ht, hs, hL]
  simp only [Result.andThen_ok, slicedAt]
  have hadd : (⟨b, 0, none⟩ : Addr).add 0 = ⟨b, 0, none⟩ := by unfold Addr.add; split <;> simp_all
  simp [hadd]
theorem sl_mid {P : Program} {t : TypeId} (ht : P.underlying t = some (.slice (P.elem t))) (hs : ∀ w, (sizeOf (P.elem t)).run P w = .ok 1 w) (b off : Nat) {n c p q : Nat} (hp : p ≤ q) (hq : q ≤ n) (hc : n ≤ c) (h0 : p < c) (w : World) :
    (Instr.sliceAt t (.slice (some ⟨b, off, none⟩) n c) (some (.int .i64 (p : Int))) (some (.int .i64 (q : Int))) none).run P w = .ok (.slice (some ⟨b, off + p, none⟩) (q - p) (c - p)) w := by
  have hadd : (⟨b, off, none⟩ : Addr).add p = ⟨b, off + p, none⟩ := by unfold Addr.add; split <;> simp_all
  rw [run_sliceAt_slice w _ _ _ _ _ ht, run_slice_lh w _ _ _ _ ht .i64 .i64 (p : Int) (q : Int) (by omega) (by omega) (by omega), hs]
  simp only [Result.andThen_ok, sliced, Int.toNat_natCast]
  rw [Nat.mul_one, if_neg (by omega), Option.map_some, hadd]
theorem sl_upto {P : Program} {t : TypeId} (ht : P.underlying t = some (.slice (P.elem t))) (hs : ∀ w, (sizeOf (P.elem t)).run P w = .ok 1 w) (b off : Nat) {n c q : Nat} (hq : q ≤ n) (hc : n ≤ c) (h0 : 0 < c) (w : World) :
    (Instr.sliceAt t (.slice (some ⟨b, off, none⟩) n c) none (some (.int .i64 (q : Int))) none).run P w = .ok (.slice (some ⟨b, off, none⟩) q c) w := by
  have hadd : (⟨b, off, none⟩ : Addr).add 0 = ⟨b, off, none⟩ := by unfold Addr.add; split <;> simp_all
  rw [run_sliceAt_slice w _ _ _ _ _ ht, run_slice_h w _ _ _ _ ht .i64 (q : Int) (by omega) (by omega), hs]
  simp only [Result.andThen_ok, sliced, Int.toNat_natCast]
  rw [Nat.zero_mul, if_neg (by omega), Option.map_some, hadd, Nat.sub_zero, Nat.sub_zero]
theorem Tryd.num8 : Tryd.prog.underlying 107 = some (.array (Tryd.prog.arrayLen 107) (Tryd.prog.elem 107)) := by kernel_rfl
theorem Tryd.len8 : Tryd.prog.arrayLen 107 = 8 := by kernel_rfl
theorem Tryd.siz8 (w : World) : (sizeOf (Tryd.prog.elem 107)).run Tryd.prog w = .ok 1 w := by rw [show Tryd.prog.elem 107 = 23 by kernel_rfl, Tryd.sizeOf23]

/-- The lower parts are X's; then the part over them is set. -/
theorem pt_top {F G : Nat → Nat} {o k : Nat} (h : ∀ i, ¬ (o ≤ i ∧ i < o + k + 1) → G i = F i) (X : Nat) {u : Nat} (hu : u < B) :
    (fun i => if i = o + k then u else pt G o k X i) = pt F o (k + 1) (X % B ^ k + B ^ k * u) := funext fun i => by
  by_cases e : i = o + k
  · rw [if_pos e, e, pt_in F o (k + 1) _ (by omega)]
    unfold lb
    rw [Nat.add_mul_div_left _ _ (Bp k), Nat.div_eq_of_lt (Nat.mod_lt _ (Bp k)), Nat.zero_add, Nat.mod_eq_of_lt hu]
  · rw [if_neg e]
    by_cases g : o ≤ i ∧ i < o + k
    · obtain ⟨d, rfl⟩ : ∃ d, i = o + d := ⟨i - o, by omega⟩
      rw [pt_in G o k X (by omega), pt_in F o (k + 1) _ (by omega), lb_add_left _ _ _ (by omega), lb_mod (by omega)]
    · rw [pt_out G (by omega), pt_out F (by omega), h i (by omega)]
theorem blk_top {w : World} {ba n o k X u : Nat} {F G : Nat → Nat} {t : TypeId} (h1 : w.heap[ba]? = some (.cells (ua n (pt G o k X)) t)) (h : ∀ i, ¬ (o ≤ i ∧ i < o + k + 1) → G i = F i) (hu : u < B) (hn : o + k < n) :
    (w.setCell ⟨ba, o + k, none⟩ (.int .u64 (u : Int))).heap[ba]? = some (.cells (ua n (pt F o (k + 1) (X % B ^ k + B ^ k * u))) t) := by
  rw [← pt_top h X hu, ← ua_set _ _ hn]
  exact blk_set h1 _
theorem wrap_take {a c : Nat} (ha : a < B) (hc : c < B) : IntKind.u64.wrap ((a : Int) - (c : Int)) = (((a + B - c) % B : Nat) : Int) := by
  rw [IntKind.wrap_u64]; simp only [B] at *; omega
theorem wrap_give {a c : Nat} : IntKind.u64.wrap ((a : Int) + (c : Int)) = (((a + c) % B : Nat) : Int) := by
  rw [IntKind.wrap_u64]; simp only [B] at *; omega

set_option maxHeartbeats 2000000 in
theorem takeOff_core (rb m s k j ba o n ca g : Nat) (F : Nat → Nat) (t : TypeId) (w : World) (hj : k = j + 1) (hr : Rg w rb m s k) (hn : o + k + 1 ≤ n) (hF : ∀ i, i < n → F i < B) (ha : w.heap[ba]? = some (.cells (ua n F) t)) (hne : rb ≠ ba) (hg : g = gu (F (o + k)) (F (o + j)) (lb m j)) (htop : 9223372036854775808 ≤ lb m j) (hgB : g < B) (X : Nat) (hX : (X + m * g) % B ^ k = vp F o k % B ^ k) (r d0 : Nat) (hd0 : d0 ≤ 2) (hov : Hid (Ovr (B ^ k) r m d0 ((F (o + k) + B - mc X m g k) % B) (X % B ^ k))) (hrm : r < m) :
    Calls Tryd.prog 86 #[.pointer (some ⟨rb, 0, none⟩), .slice (some ⟨ba, o, none⟩) (k + 1) ca] w fun e w' =>
      e = .returned (.tuple #[]) ∧ w'.heap[ba]? = some (.cells (ua n (pt F o (k + 1) r)) t) ∧ Wrote ba w w' := by
  have hk := hr.most
  have z := hr.size
  have u := hr.us
  have e0 := fun w => arr_upto Tryd.num8 Tryd.siz8 Tryd.len8 rb hk w
  have c0 := u.cells j (by omega)
  rw [Nat.zero_add] at c0
  have c1 := blk_cell ha (ua_get F (show o + k < n by omega))
  have c2 := blk_cell ha (ua_get F (show o + j < n by omega))
  have e1 : (k : Int) - 1 = (j : Int) := by omega
  have hjk : j < k := by omega
  have HJ := Lib.hid hj
  have HN := Lib.hid hn
  have HG := Lib.hid hg
  have hd := fun hlt w => div64_nat (F (o + k)) (F (o + j)) (lb m j) hlt (hF _ (by omega)) (lb_lt _ _) htop w
  have HD := Lib.hid hd
  clear hj hd hg
  go_enter Tryd.func86, Tryd.ntmps86
  go_wp2_with fail
  go_region
  go_upto_region 3 with fail
  go_region
  go_upto_if 26 with fail
  go_cut [6] (fun s6 wx => s6 = .int .u64 (g : Int) ∧ Below w.heap.size w wx)
  case first =>
    by_cases ht : F (o + k) < lb m j
    · have HD' := Lib.hid (HD.out ht)
      go_wp2_with fail
      have d0 : ∀ g : Ext w.drew.drew, g.on.cell? ⟨rb, j, none⟩ = some (.int .u64 ((lb m j : Nat) : Int)) := fun g => g.cell c0
      have d1 : ∀ g : Ext w.drew.drew, g.on.cell? ⟨ba, o + k, none⟩ = some (.int .u64 ((F (o + k) : Nat) : Int)) := fun g => g.cell c1
      have d2 : ∀ g : Ext w.drew.drew, g.on.cell? ⟨ba, o + j, none⟩ = some (.int .u64 ((F (o + j) : Nat) : Int)) := fun g => g.cell c2
      refine region_ext (by kernel_rfl) (by kernel_rfl) ?_
      repeat (go_big_quiet_step (first | (go_at_call 92; exact calls_ext (HD'.out _))))
      refine wpQuiet_nil ?_
      rintro _ ⟨g', rfl⟩
      go_wp2_with fail
      go_meet
      refine ⟨congrArg (Value.int .u64) ?_, ((Below.refl _ _).drew.drew).trans (g'.below.mono (Nat.le_refl _))⟩
      rw [HG.out, gu, if_neg (by omega)]
      simp
    · go_wp2_with fail
      go_meet
      refine ⟨?_, (Below.refl _ _).drew.drew⟩
      rw [HG.out, gu, if_pos (by omega)]
      rfl
  case rest =>
    obtain ⟨rfl, b1⟩ := hcut
    have hrw := Lib.hid hr
    replace hr := hr.below b1
    rw [← b1.block ba (Array.getElem?_eq_some_iff.1 ha).1] at ha
    have HW : Hid (Below w.heap.size w wc) := Lib.hid b1
    replace u := hr.us
    clear c0 c1 c2 z e0 b1
    have c1 := blk_cell ha (ua_get F (show o + k < n by omega))
    have c3 := blk_frozen (j := o + k) ha
    have HS := Lib.hid fun w' h1 h2 => subTimesM_walk ba o n k (k + 1) ca rb 0 8 g X F (lb m) t w' (by omega) hF h1 h2 hne hgB (by omega) (by omega) (by rw [hr.vp]; exact hX)
    rw [hr.vp] at HS
    go_wp2_with fail
    have hcB : mc X m g k < B := mc_lt hgB k
    go_cut [] (fun wx => wx.heap[ba]? = some (.cells (ua n (pt F o (k + 1) (X % B ^ k + B ^ k * ((F (o + k) + B - mc X m g k) % B)))) t) ∧ Wrote ba w wx)
    case first =>
      have hFk := hF (o + k) (by omega)
      go_region_with (go_at_call 93; refine (HS.out wc.drew ha u.drew).mono ?_; rintro e w2 ⟨rfl, h1, h2⟩; have c1' := (blk_cell h1 (ua_get (pt F o k X) (show o + k < n by omega))); rw [pt_out F (by omega)] at c1'; have c3' := blk_frozen (j := o + k) h1)
      all_goals
        go_wp2_with fail
        go_meet
        rw [wrap_take hFk hcB]
        exact ⟨blk_top h1 (fun _ _ => rfl) (Nat.mod_lt _ (by decide)) (by omega), (Wrote.of_below HW.out).trans (((Wrote.refl _ _).drew.trans h2).trans (Wrote.put _ _))⟩
    case rest =>
      obtain ⟨h1, h2⟩ := hcut
      have hu0 : Hid (Us w rb 0 k (lb m)) := Lib.hid hrw.out.us
      have hmP := hr.lt
      clear c1 c3 HS HD HG hX e1
      go_wp2_with fail
      go_loopg [] d0 (fun d wr => ∃ y l : Nat, d ≤ 2 ∧ Hid (Ovr (B ^ k) r m d y l) ∧ wr.heap[ba]? = some (.cells (ua n (pt F o (k + 1) (l + B ^ k * y))) t) ∧ Wrote ba w wr)
      case atStart => exact ⟨_, _, hd0, hov, h1, h2⟩
      case round =>
        clear h1 h2
        obtain ⟨y, l, hd, ho, h1, h2⟩ := hrel
        have hl := ho.out.1
        have hy := ho.out.2.1
        have c1 := blk_cell h1 (ua_get (pt F o (k + 1) (l + B ^ k * y)) (show o + k < n by omega))
        have ev : vp (pt F o (k + 1) (l + B ^ k * y)) o k = l := by rw [vp_pt_low _ _ _ _ (by omega), Nat.add_mul_mod_self_left, Nat.mod_eq_of_lt hl]
        have et : Hid (pt F o (k + 1) (l + B ^ k * y) (o + k) = y) := by
          refine Lib.hid ?_
          rw [pt_in _ _ _ _ (by omega)]
          unfold lb
          rw [Nat.add_mul_div_left _ _ (Bp k), Nat.div_eq_of_lt hl, Nat.zero_add, Nat.mod_eq_of_lt hy]
        rw [et.out] at c1
        have H1 := Lib.hid h1
        have H2 := Lib.hid h2
        have ub : Us wr rb 0 k (lb m) := (hu0.out).wrote h2 hne
        clear h1 h2
        cases gk with
        | zero =>
          obtain ⟨rfl, rfl⟩ := ovr_end (by omega) ho.out
          clear ho
          go_wp2_with fail
          go_end0
          refine ⟨rfl, ?_, H2.out⟩
          have := H1.out
          rw [Nat.mul_zero, Nat.add_zero] at this
          exact this
        | succ d =>
          have hy0 := ovr_pos hrm hmP hd (by omega) ho.out
          have HO := Lib.hid (ovr_step (Bp k) ho.out)
          have HA := Lib.hid fun w' h1 h2 => addM_walk ba o n k ca rb 0 8 (pt F o (k + 1) (l + B ^ k * y)) (lb m) t w' (by omega) (pt_lt hF) h1 h2 hne (k + 1) (by omega) (by omega)
          rw [ev, hr.vp, mc_end hl hmP, Nat.mul_one] at HA
          obtain ⟨cc, hcc⟩ : ∃ c, (l + m) / B ^ k = c := ⟨_, rfl⟩
          rw [hcc] at HA HO
          clear hcc
          have cn : (((y : Nat) : Int) != 0) = true := by rw [bne_iff_ne]; omega
          clear ho ev
          go_wp2_with fail
          have c3 := blk_frozen (j := o + k) H1.out
          go_region_with (go_at_call 94; refine (HA.out wr.drew H1.out ub.drew).mono ?_; rintro e w2 ⟨rfl, h1, h2⟩; have c1' := (blk_cell h1 (ua_get (pt (pt F o (k + 1) (l + B ^ k * y)) o k (l + m)) (show o + k < n by omega))); rw [pt_out _ (by omega), et.out] at c1'; have c3' := blk_frozen (j := o + k) h1)
          all_goals
            go_wp2_with fail
            go_roundg d
            case measure => omega
            case rel =>
              rw [wrap_give]
              exact ⟨_, _, by omega, HO, blk_top h1 (fun i hi => pt_out F hi) (Nat.mod_lt _ (by decide)) (by omega), H2.out.trans (((Wrote.refl _ _).drew.trans h2).trans (Wrote.put _ _))⟩

theorem takeOff_walk (rb m s k ba o n ca : Nat) (F : Nat → Nat) (t : TypeId) (w : World) (hr : Rg w rb m s k) (hn : o + k + 1 ≤ n) (hF : ∀ i, i < n → F i < B) (ha : w.heap[ba]? = some (.cells (ua n F) t)) (hne : rb ≠ ba) (hT : vp F o (k + 1) < m * B) :
    Calls Tryd.prog 86 #[.pointer (some ⟨rb, 0, none⟩), .slice (some ⟨ba, o, none⟩) (k + 1) ca] w fun e w' =>
      e = .returned (.tuple #[]) ∧ w'.heap[ba]? = some (.cells (ua n (pt F o (k + 1) (vp F o (k + 1) % m))) t) ∧ Wrote ba w w' := by
  obtain ⟨j, hj⟩ : ∃ j, k = j + 1 := ⟨k - 1, by have := hr.pos; omega⟩
  have hF' : ∀ i, i < k → F (o + i) < B := fun i hi => hF _ (by omega)
  have hA := vp_lt hF'
  have hm0 : 0 < m := by have := hr.top; have := Bp k; omega
  have em : m = m % B ^ j + B ^ j * lb m j := by
    rw [← lb_low, ← hj, Nat.mod_eq_of_lt hr.lt]
  have eA : vp F o k = vp F o j + B ^ j * F (o + j) := by rw [hj, vp_top]
  have htop : 9223372036854775808 ≤ lb m j := by
    have h1 := hr.top
    have h2 : m % B ^ j < B ^ j := Nat.mod_lt _ (Bp j)
    rw [hj, Nat.pow_succ] at h1
    have h3 : B ^ j * B < B ^ j * (2 * lb m j + 2) := by
      rw [Nat.mul_add, Nat.mul_left_comm]
      omega
    have h4 := Nat.lt_of_mul_lt_mul_left h3
    simp only [B] at h4
    omega
  have hT' : F (o + k) * B ^ k + vp F o k < m * B := by rw [vp_top] at hT; rw [Nat.mul_comm]; omega
  have eT : vp F o (k + 1) = F (o + k) * B ^ k + vp F o k := by rw [vp_top, Nat.mul_comm]; omega
  obtain ⟨n1, n2⟩ := gu_near (t := F (o + k)) (u := F (o + j)) (v := lb m j) (k := j) (hF' j (by omega)) (lb_lt _ _) eA em (vp_lt fun i hi => hF' i (by omega)) (Nat.mod_lt _ (Bp j)) (by rw [← hj]; exact hr.top) (by rw [← hj]; exact hT')
  rw [← hj, ← eT] at n1 n2
  have hgB := gu_lt (t := F (o + k)) (v := lb m j) (hF' j (by omega))
  generalize hg : gu (F (o + k)) (F (o + j)) (lb m j) = g at *
  obtain ⟨d, hd⟩ : ∃ d, g = vp F o (k + 1) / m + d := ⟨g - vp F o (k + 1) / m, by omega⟩
  have hmg : m * g ≤ B ^ k * g := Nat.mul_le_mul_right _ (Nat.le_of_lt hr.lt)
  have hX : (vp F o k + B ^ k * g - m * g + m * g) % B ^ k = vp F o k % B ^ k := by
    rw [show vp F o k + B ^ k * g - m * g + m * g = vp F o k + B ^ k * g by omega, Nat.add_mul_mod_self_left]
  have hX2 : ((vp F o k + B ^ k * g - m * g) % B ^ k + m * g) % B ^ k = vp F o k % B ^ k := by rw [Nat.mod_add_mod]; exact hX
  have hXl : (vp F o k + B ^ k * g - m * g) % B ^ k < B ^ k := Nat.mod_lt _ (Bp k)
  generalize (vp F o k + B ^ k * g - m * g) % B ^ k = X at hX2 hXl
  have hc := mc_end (A := X) (G := m) (n := g) hXl hr.lt
  have hcB : mc X m g k < B := mc_lt hgB k
  have he : X + m * (vp F o (k + 1) / m + d) = vp F o k + B ^ k * mc X m g k := by
    rw [← hd, hc]
    have := Nat.mod_add_div (X + m * g) (B ^ k)
    rw [hX2, Nat.mod_eq_of_lt hA] at this
    exact this.symm
  have hov := ovr_start (t := F (o + k)) hXl hr.lt (by rw [eT]) hcB he hm0
  rw [← eT] at hov
  exact takeOff_core rb m s k j ba o n ca g F t w hj hr hn hF ha hne hg.symm htop hgB X hX2 _ d (by omega) (Lib.hid (by rw [Nat.mod_eq_of_lt hXl]; exact hov)) (Nat.mod_lt _ hm0)
end Go.Proofs.YtihefgpicnhdjaaDoor
/- What the method left of package modexp's ring does. -/
namespace Go.Proofs.YtihefgpicnhdjaaDoor
open Go.RowKit SmWord
set_option maxRecDepth 100000

theorem Tryd.slU : Tryd.prog.underlying 83 = some (.slice (Tryd.prog.elem 83)) := by kernel_rfl
theorem Tryd.sizU (w : World) : (sizeOf (Tryd.prog.elem 83)).run Tryd.prog w = .ok 1 w := by rw [show Tryd.prog.elem 83 = 23 by kernel_rfl, Tryd.sizeOf23]
/-- One place further down. -/
theorem left_step {F : Nat → Nat} {L k i m X : Nat} (hF : ∀ i, i < L → F i < B) (hX : X = vp F 0 L) (hi : i + k + 1 ≤ L) (hm : m < B ^ k) (hm0 : 0 < m) :
    vp (pt F (i + 1) (L - (i + 1)) (X / B ^ (i + 1) % m)) i (k + 1) < m * B ∧
    pt (pt F (i + 1) (L - (i + 1)) (X / B ^ (i + 1) % m)) i (k + 1) (vp (pt F (i + 1) (L - (i + 1)) (X / B ^ (i + 1) % m)) i (k + 1) % m) = pt F i (L - i) (X / B ^ i % m) := by
  have hr := Nat.mod_lt (X / B ^ (i + 1)) hm0
  have e1 : vp (pt F (i + 1) (L - (i + 1)) (X / B ^ (i + 1) % m)) i (k + 1) = F i + B * (X / B ^ (i + 1) % m) := by
    rw [vp_cons, pt_out F (by omega), vp_pt_low _ _ _ _ (by omega), Nat.mod_eq_of_lt (Nat.lt_trans hr hm)]
  have hFi : lb X i = F i := by rw [hX, lb_vp (fun j hj => by rw [Nat.zero_add]; exact hF j hj) (by omega), Nat.zero_add]
  have e2 : X / B ^ i = F i + B * (X / B ^ (i + 1)) := by
    rw [← hFi, Nat.pow_succ, ← Nat.div_div_eq_div_mul]
    exact (Nat.mod_add_div _ _).symm
  have e3 : (F i + B * (X / B ^ (i + 1) % m)) % m = X / B ^ i % m := by
    rw [e2, Nat.add_mod, Nat.mul_mod, Nat.mod_mod, ← Nat.mul_mod, ← Nat.add_mod]
  rw [e1, e3]
  refine ⟨?_, funext fun x => ?_⟩
  · have h1 : B * (X / B ^ (i + 1) % m + 1) ≤ B * m := Nat.mul_le_mul_left _ hr
    have h2 := hF i (by omega)
    rw [Nat.mul_comm m B]
    rw [Nat.mul_add] at h1
    omega
  · by_cases h : i ≤ x ∧ x < i + (k + 1)
    · obtain ⟨d, rfl⟩ : ∃ d, x = i + d := ⟨x - i, by omega⟩
      rw [pt_in _ _ _ _ (by omega), pt_in _ _ _ _ (by omega)]
    · rw [pt_out _ h]
      by_cases g : i ≤ x ∧ x < i + (L - i)
      · obtain ⟨d, rfl⟩ : ∃ d, x = i + 1 + d := ⟨x - (i + 1), by omega⟩
        rw [pt_in _ _ _ _ (by omega), Nat.add_assoc i 1 d, pt_in _ _ _ _ (by omega), lb_high (Nat.lt_trans hr hm) (by omega), lb_high (Nat.lt_trans (Nat.mod_lt _ hm0) hm) (by omega)]
      · rw [pt_out _ (by omega), pt_out _ g]

theorem Tryd.sizeU : (Tryd.prog.info? 23).map (·.size) = some 1 := by kernel_rfl
/-- Parts are copied. -/
theorem copy_ua {ops : Array Oper} {rest : List Oper} {o : Oper} {a : Act} {w : World} {Q : Exit → Act → World → Prop} (hg : o.guard = none) (d s : Operand)
    (ho : o.op = .call { callee := .builtin .copy, args := #[d, s], argTypes := #[83, 83] }) (g b off D m c dc : Nat) (t : TypeId) (hd : a.eval d = .slice (some ⟨g, 0, none⟩) D dc) (hs : a.eval s = .slice (some ⟨b, off, none⟩) m c) (hm : m ≤ D) (Z G : Nat → Nat)
    (hsl : Us w b off m G) (hb : w.heap[g]? = some (.cells (ua D Z) t))
    (h : ∀ w', w'.heap[g]? = some (.cells (ua D fun i => if i < m then G i else Z i) t) → Below g w w' → wpList Tryd.prog ops Q rest (a.put o.dst (goInt m)) w') : wpList Tryd.prog ops Q (o :: rest) a w := by
  have hl : ((List.range m).map fun i => Value.int .u64 ((G i : Nat) : Int)).length = m := by simp
  refine wpList_copy_splice hg d s 83 83 ho 23 Tryd.underlying83 Tryd.sizeU _ _ _ _ _ _ hd hs g 0 (ua D Z).toList t (by simpa using hb) ((List.range m).map fun i => Value.int .u64 ((G i : Nat) : Int))
    (by rw [hl]; exact (Nat.min_eq_left hm).symm) (fun h0 => ⟨rfl, ⟨_, rfl, fun i v hv => ?_⟩⟩) (by rw [hl, Array.length_toList, ua_size]; omega) (fun v hv => ?_) g w (Below.refl _ _) (Nat.le_refl _) (fun w' hh hbel => ?_)
  · have hi : i < m := by have := (List.getElem?_eq_some_iff.1 hv).1; simpa using this
    rw [List.getElem?_map, List.getElem?_range hi] at hv
    cases hv
    rw [Addr.add_mid]
    exact hsl.cells i hi
  · simp at hv
    obtain ⟨i, _, rfl⟩ := hv
    rfl
  · rw [hl]
    refine h w' ?_ hbel
    rw [hh.out]
    congr 2
    apply Array.ext_getElem?
    intro i
    unfold splice
    rw [hl, List.take_zero, List.nil_append, Nat.zero_add, List.getElem?_toArray]
    by_cases hi : i < D
    · rw [ua_get _ hi]
      by_cases l : i < m
      · rw [List.getElem?_append_left (by rw [hl]; exact l), List.getElem?_map, List.getElem?_range l, if_pos l]
        rfl
      · rw [List.getElem?_append_right (by rw [hl]; omega), hl, List.getElem?_drop, show m + (i - m) = i by omega, Array.getElem?_toList, ua_get _ hi, if_neg l]
    · rw [List.getElem?_eq_none (by rw [List.length_append, hl, List.length_drop, Array.length_toList, ua_size]; omega), Array.getElem?_eq_none (by rw [ua_size]; omega)]
/-- The number of no parts but noughts. -/
def zU : Array Value := ua 8 (fun _ => 0)
theorem zU_eq : zU = #[Value.int .u64 0, .int .u64 0, .int .u64 0, .int .u64 0, .int .u64 0, .int .u64 0, .int .u64 0, .int .u64 0] := rfl
theorem infoU (F : Nat → Nat) : (Tryd.prog.info? 107).map (·.size) = some (ua 8 F).size := by rw [ua_size]; kernel_rfl
set_option maxHeartbeats 2000000 in
theorem left_walk (rb m s k ba L n ca X : Nat) (F : Nat → Nat) (t : TypeId) (w : World) (hr : Rg w rb m s k) (hn : L ≤ n) (hF : ∀ i, i < n → F i < B) (ha : w.heap[ba]? = some (.cells (ua n F) t)) (hne : rb ≠ ba) (hkL : k ≤ L) (hL : L ≤ 100) (hc : L ≤ ca)
    (hX : X = vp F 0 L) (hT : X / B ^ (L - k) < m) :
    Calls Tryd.prog 78 #[.pointer (some ⟨rb, 0, none⟩), .slice (some ⟨ba, 0, none⟩) L ca] w fun e w' =>
      e = .returned (.agg (ua 8 (lb (X % m)))) ∧ Wrote ba w w' := by
  go_enter Tryd.func78, Tryd.ntmps78
  go_upto_region 1 with fail
  rw [← zU_eq]
  have hb0 : ba < w.heap.size := (Array.getElem?_eq_some_iff.1 ha).1
  have b0 : Below w.heap.size w (w.alloc (.cells zU 107)) := (Below.refl _ _).alloc (Nat.le_refl _) _
  have f4 : (w.alloc (.cells zU 107)).heap[w.heap.size]? = some (.cells zU 107) := heap_alloc_new _ _
  rw [← b0.block ba hb0] at ha
  have hr1 := hr.below b0
  have hw0 : Wrote ba w (w.alloc (.cells zU 107)) := Wrote.of_below b0
  have s0 : w.heap.size < (w.alloc (.cells zU 107)).heap.size := by simp
  have hrb : rb ≠ w.heap.size := fun e => by have := hr.here; omega
  have hba : ba ≠ w.heap.size := by omega
  clear b0 hr
  generalize hnb : w.heap.size = nb at *
  have HNB := Lib.hid hnb
  clear hnb
  generalize w.alloc (.cells zU 107) = W at *
  have z := hr1.size
  have hm0 : 0 < m := Nat.lt_of_le_of_lt (Nat.zero_le _) hT
  have hlt := hr1.lt
  go_wp2_with fail
  clear z
  go_loopw [5] (fun i wr => ∃ j : Nat, j ≤ L - k ∧ i = .int .i64 ((j : Int) - 1) ∧ wr.heap[ba]? = some (.cells (ua n (pt F j (L - j) (X / B ^ j % m))) t) ∧ Wrote ba W wr) (fun i _ => (intOf i + 1).toNat)
  case atStart =>
    refine ⟨L - k, Nat.le_refl _, congrArg (Value.int .i64) (by omega), ?_, Wrote.refl _ _⟩
    have hp := pt_self (F := F) (o := L - k) (k := k) fun i hi => hF _ (by omega)
    have hv : vp F (L - k) k = X / B ^ (L - k) := by
      have := vp_high (F := F) (o := 0) (k := k) (j := L - k) fun i hi => hF _ (by omega)
      rw [Nat.sub_add_cancel hkL, ← hX, Nat.zero_add] at this
      exact this.symm
    rw [Nat.mod_eq_of_lt hT, show L - (L - k) = k by omega, ← hv, hp]
    exact ha
  case round =>
    obtain ⟨j, hj, rfl, h1, h2⟩ := hrel
    have hr2 := hr1.wrote h2 hne
    have z := hr2.size
    by_cases h0 : 0 < j
    · obtain ⟨i, rfl⟩ : ∃ i, j = i + 1 := ⟨j - 1, by omega⟩
      have e1 : ((i + 1 : Nat) : Int) - 1 = (i : Int) := by omega
      rw [e1]
      obtain ⟨t1, t2⟩ := left_step (k := k) (i := i) (X := X) (L := L) (F := F) (m := m) (fun i hi => hF i (by omega)) hX (by omega) hlt hm0
      have es := fun w => sl_mid Tryd.slU Tryd.sizU ba 0 (n := L) (c := ca) (p := i) (q := i + k + 1) (by omega) (by omega) hc (by omega) w
      rw [Nat.zero_add, show i + k + 1 - i = k + 1 by omega] at es
      have HT := Lib.hid fun w' h3 h4 => takeOff_walk rb m s k ba i n (ca - i) (pt F (i + 1) (L - (i + 1)) (X / B ^ (i + 1) % m)) t w' h3 (by omega) (pt_lt hF) h4 hne t1
      rw [t2] at HT
      have hq : i + k + 1 ≤ L := by omega
      have e2 : ((i : Int) + (k : Int) + 1) = ((i + k + 1 : Nat) : Int) := by omega
      obtain ⟨q, hq'⟩ : ∃ q, q = i + k + 1 := ⟨_, rfl⟩
      rw [← hq'] at es e2 hq
      have H1 := Lib.hid h1
      have H2 := Lib.hid h2
      have HR := Lib.hid hr2
      clear h1 h2 hr2 hr1 hq' ha t1 t2 hX hT hF hw0 f4
      go_wp2_with (go_at_call 86; refine (HT.out wr HR.out H1.out).mono ?_; rintro e w2 ⟨rfl, h1, h2⟩)
      exact ⟨⟨i, by omega, by simp, h1, H2.out.trans h2⟩, by simp only [intOf]; omega⟩
    · obtain rfl : j = 0 := by omega
      go_upto_region 6 with fail
      rw [← zU_eq]
      have hL0 : 1 ≤ L := by have := hr1.pos; omega
      have hk8 := hr1.most
      clear z hX hT h0 hj hr1
      have b0 : Below wr.heap.size wr (wr.alloc (.cells zU 107)) := (Below.refl _ _).alloc (Nat.le_refl _) _
      have f6 : (wr.alloc (.cells zU 107)).heap[wr.heap.size]? = some (.cells zU 107) := heap_alloc_new _ _
      replace f4 : wr.heap[nb]? = some (.cells zU 107) := h2.other f4 hba.symm
      have hs1 : nb < wr.heap.size := (Array.getElem?_eq_some_iff.1 f4).1
      have hs2 : ba < wr.heap.size := (Array.getElem?_eq_some_iff.1 h1).1
      replace f4 := blk_alloc (o' := .cells zU 107) f4
      replace h1 := blk_alloc (o' := .cells zU 107) h1
      replace hr2 := hr2.below b0
      have HB := Lib.hid ((hw0.trans h2).trans (Wrote.of_below b0))
      have es := fun w => sl_upto Tryd.slU Tryd.sizU ba 0 (n := L) (c := ca) (q := k) hkL hc (by omega) w
      have ea := fun w => arr_all Tryd.num8 Tryd.siz8 Tryd.len8 wr.heap.size w
      clear h2 b0 ha hw0
      generalize wr.heap.size = nr at *
      generalize wr.alloc (.cells zU 107) = V at *
      have z := hr2.size
      refine region_tail 7 (by kernel_rfl) (by kernel_rfl) ?_
      simp only [List.take_succ_cons, List.take_zero, List.drop_succ_cons, List.drop_zero]
      repeat still_step
      refine wpStill_nil ?_
      rw [Nat.sub_zero, Nat.pow_zero, Nat.div_one] at h1
      have hus : Us V.drew ba 0 k (lb (X % m)) := ⟨fun i _ => lb_lt _ _, (Array.getElem?_eq_some_iff.1 h1).1, fun i hi => by
        rw [Nat.zero_add]
        have := blk_cell h1 (ua_get (pt F 0 L (X % m)) (show i < n by omega))
        have e := pt_in F 0 L (X % m) (i := i) (by omega)
        rw [Nat.zero_add] at e
        rw [e] at this
        exact this⟩
      have er : ua 8 (fun i => if i < k then lb (X % m) i else 0) = ua 8 (lb (X % m)) := ua_congr fun i _ => by
        by_cases h : i < k
        · rw [if_pos h]
        · rw [if_neg h, lb_high (Nat.lt_trans (Nat.mod_lt _ hm0) hlt) (by omega)]
      refine copy_ua rfl (.tmp 31) (.tmp 37) rfl nr ba 0 8 k ca 8 107 rfl rfl hk8 (fun _ => 0) (lb (X % m)) hus f6 (fun w3 h3 b3 => ?_)
      rw [er] at h3
      replace f4 : w3.heap[nb]? = some (.cells zU 107) := by
        rw [b3.block nb hs1]
        exact f4
      have HB2 : Hid (Wrote ba w w3) := Lib.hid (HB.out.drew.low b3 (by rw [HNB.out]; omega))
      go_wp2_with (first | (refine wpList_load_row rfl 107 _ rfl _ rfl 107 (ua 8 (lb (X % m))) (0, 0) _ h3 Tryd.underlying107 rfl (infoU _) ?_) | (refine wpList_store_row rfl 107 _ _ rfl _ zU (ua 8 (lb (X % m))) rfl rfl f4 (infoU _) rfl (arr_one _ _ _) ?_))
      refine bodyPost_ret (v := .agg (ua 8 (lb (X % m)))) (results_cell_row rfl _ _ _ 107 (ua 8 (lb (X % m))) (0, 0) _ rfl (blk_row f4) Tryd.underlying107 rfl (infoU _)) rfl ⟨rfl, HB2.out.low (below_setRow (Below.refl _ _) (Nat.le_refl _) _) (by rw [HNB.out]; exact Nat.le_refl _)⟩
end Go.Proofs.YtihefgpicnhdjaaDoor
/- What the method product of package modexp's ring does. -/
namespace Go.Proofs.YtihefgpicnhdjaaDoor
open Go.RowKit SmWord
set_option maxRecDepth 100000

theorem blk_fresh {w : World} {n : Nat} (o : Obj) (h : n = w.heap.size) : (w.alloc o).heap[n]? = some o := by subst h; exact heap_alloc_new _ _
theorem lb_shift (X j i : Nat) : lb X (j + i) = lb (X / B ^ j) i := by
  unfold lb
  rw [Nat.pow_add, ← Nat.div_div_eq_div_mul]
theorem vp_lb_mid (X j k : Nat) : vp (lb X) j k = X / B ^ j % B ^ k := vp_of fun i _ => lb_shift X j i
/-- One part more of a product. -/
theorem product_step {A C j k : Nat} (hC : C < B ^ k) : pt (lb (A % B ^ j * C)) j (k + 1) (vp (lb (A % B ^ j * C)) j k + C * lb A j) = lb (A % B ^ (j + 1) * C) := by
  have hY : A % B ^ j * C < B ^ (j + k) := by
    rw [Nat.pow_add]
    exact Nat.mul_lt_mul'' (Nat.mod_lt _ (Bp j)) hC
  have hZ : A % B ^ (j + 1) * C < B ^ (j + 1 + k) := by
    rw [Nat.pow_add B (j + 1) k]
    exact Nat.mul_lt_mul'' (Nat.mod_lt _ (Bp (j + 1))) hC
  have e1 : vp (lb (A % B ^ j * C)) j k = A % B ^ j * C / B ^ j := by
    rw [vp_lb_mid, Nat.mod_eq_of_lt]
    rw [Nat.div_lt_iff_lt_mul (Bp j), ← Nat.pow_add, Nat.add_comm k j]
    exact hY
  have e2 : A % B ^ (j + 1) * C = A % B ^ j * C + B ^ j * (C * lb A j) := by
    rw [lb_low, Nat.add_mul, Nat.mul_assoc, Nat.mul_comm C]
  rw [e1]
  funext x
  by_cases h : j ≤ x ∧ x < j + (k + 1)
  · obtain ⟨d, rfl⟩ : ∃ d, x = j + d := ⟨x - j, by omega⟩
    rw [pt_in _ _ _ _ (by omega), lb_shift (A % B ^ (j + 1) * C), e2, Nat.add_mul_div_left _ _ (Bp j)]
  · rw [pt_out _ h]
    by_cases g : x < j
    · rw [e2, lb_add_left _ _ _ g]
    · rw [lb_high hY (by omega), lb_high hZ (by omega)]
theorem Tryd.num16 : Tryd.prog.underlying 128 = some (.array (Tryd.prog.arrayLen 128) (Tryd.prog.elem 128)) := by kernel_rfl
theorem Tryd.len16 : Tryd.prog.arrayLen 128 = 16 := by kernel_rfl
theorem Tryd.siz16 (w : World) : (sizeOf (Tryd.prog.elem 128)).run Tryd.prog w = .ok 1 w := by rw [show Tryd.prog.elem 128 = 23 by kernel_rfl, Tryd.sizeOf23]
/-- Sixteen noughts. -/
def zV : Array Value := ua 16 (fun _ => 0)
theorem zV_eq : zV = #[Value.int .u64 0, Value.int .u64 0, Value.int .u64 0, Value.int .u64 0, Value.int .u64 0, Value.int .u64 0, Value.int .u64 0, Value.int .u64 0, Value.int .u64 0, Value.int .u64 0, Value.int .u64 0, Value.int .u64 0, Value.int .u64 0, Value.int .u64 0, Value.int .u64 0, Value.int .u64 0] := rfl

set_option maxHeartbeats 2000000 in
theorem product_walk (rb m s k A C : Nat) (w : World) (hr : Rg w rb m s k) (hA : A < m) (hC : C < B ^ k) :
    Calls Tryd.prog 79 #[.pointer (some ⟨rb, 0, none⟩), .agg (ua 8 (lb A)), .agg (ua 8 (lb C))] w fun e w' =>
      e = .returned (.agg (ua 8 (lb (A * C % m)))) ∧ Below w.heap.size w w' := by
  go_enter Tryd.func79, Tryd.ntmps79
  go_upto_region 2 with fail
  rw [← zU_eq, ← zV_eq]
  have b0 : Below w.heap.size w ((((w.alloc (.cells (ua 8 (lb A)) 107)).alloc (.cells (ua 8 (lb C)) 107)).alloc (.cells zU 107)).alloc (.cells zV 128)) := ((((Below.refl _ _).alloc (Nat.le_refl _) _).alloc (by simp) _).alloc (by simp; omega) _).alloc (by simp; omega) _
  have f0 : ((((w.alloc (.cells (ua 8 (lb A)) 107)).alloc (.cells (ua 8 (lb C)) 107)).alloc (.cells zU 107)).alloc (.cells zV 128)).heap[w.heap.size]? = some (.cells (ua 8 (lb A)) 107) := blk_alloc (blk_alloc (blk_alloc (heap_alloc_new _ _)))
  have f1 : ((((w.alloc (.cells (ua 8 (lb A)) 107)).alloc (.cells (ua 8 (lb C)) 107)).alloc (.cells zU 107)).alloc (.cells zV 128)).heap[w.heap.size + 1]? = some (.cells (ua 8 (lb C)) 107) := blk_alloc (blk_alloc (blk_fresh _ (by simp)))
  have f2 : ((((w.alloc (.cells (ua 8 (lb A)) 107)).alloc (.cells (ua 8 (lb C)) 107)).alloc (.cells zU 107)).alloc (.cells zV 128)).heap[w.heap.size + 1 + 1]? = some (.cells zU 107) := blk_alloc (blk_fresh _ (by simp))
  have f3 : ((((w.alloc (.cells (ua 8 (lb A)) 107)).alloc (.cells (ua 8 (lb C)) 107)).alloc (.cells zU 107)).alloc (.cells zV 128)).heap[w.heap.size + 1 + 1 + 1]? = some (.cells zV 128) := blk_fresh _ (by simp)
  have hrb : rb < w.heap.size := hr.here
  have hr1 := hr.below b0
  have HB0 := Lib.hid b0
  have hk8 := hr.most
  have hlt := hr.lt
  clear b0 hr
  generalize hW : ((((w.alloc (.cells (ua 8 (lb A)) 107)).alloc (.cells (ua 8 (lb C)) 107)).alloc (.cells zU 107)).alloc (.cells zV 128)) = W at *
  clear hW
  have hs1 : w.heap.size + 1 + 1 + 1 < W.heap.size := (Array.getElem?_eq_some_iff.1 f3).1
  generalize hnb : w.heap.size = nb at *
  have HNB := Lib.hid hnb
  clear hnb
  have z := hr1.size
  have ea := fun w => arr_upto Tryd.num8 Tryd.siz8 Tryd.len8 nb hk8 w
  go_wp2_with fail
  clear z ea
  go_loopw [16] (fun i wr => ∃ j : Nat, j ≤ k ∧ i = .int .i64 (j : Int) ∧ wr.heap[nb + 1 + 1 + 1]? = some (.cells (ua 16 (lb (A % B ^ j * C))) 128) ∧ Wrote (nb + 1 + 1 + 1) W wr) (fun i _ => k - (intOf i).toNat)
  case atStart =>
    refine ⟨0, Nat.zero_le _, rfl, f3.trans ?_, Wrote.refl _ _⟩
    rw [Nat.pow_zero, Nat.mod_one, Nat.zero_mul]
    exact congrArg (fun c => some (Obj.cells c 128)) (ua_congr fun i _ => by simp [lb])
  case round =>
    obtain ⟨j, hj, rfl, h1, h2⟩ := hrel
    by_cases hlt2 : j < k
    · have hr2 := hr1.wrote h2 (by omega)
      have z := hr2.size
      have c1 := blk_cell (h2.other f0 (by omega)) (ua_get (lb A) (show j < 8 by omega))
      have ub : Us wr (nb + 1) 0 k (lb C) := ⟨fun i _ => lb_lt _ _, (Array.getElem?_eq_some_iff.1 (h2.other f1 (by omega))).1, fun i hi => by
        rw [Nat.zero_add]
        exact blk_cell (h2.other f1 (by omega)) (ua_get (lb C) (by omega))⟩
      have ea := fun w => arr_upto Tryd.num8 Tryd.siz8 Tryd.len8 (nb + 1) hk8 w
      have es := fun w => arr_mid Tryd.num16 Tryd.siz16 Tryd.len16 (nb + 1 + 1 + 1) (p := j) (q := j + k + 1) (by omega) (by omega) (by omega) w
      rw [show j + k + 1 - j = k + 1 by omega] at es
      have HT := Lib.hid fun w' h3 h4 => addTimesM_walk (nb + 1 + 1 + 1) j 16 k (16 - j) (nb + 1) 0 8 (lb A j) (lb (A % B ^ j * C)) (lb C) 128 w' (by omega) (fun i _ => lb_lt _ _) h3 h4 (by omega) (lb_lt _ _) (by omega)
      rw [vp_lb C, Nat.mod_eq_of_lt hC, product_step hC] at HT
      have e2 : ((j : Int) + (k : Int) + 1) = ((j + k + 1 : Nat) : Int) := by omega
      obtain ⟨q, hq'⟩ : ∃ q, q = j + k + 1 := ⟨_, rfl⟩
      rw [← hq'] at es e2
      obtain ⟨p, hp'⟩ : ∃ p, p = j + k := ⟨_, rfl⟩
      have w1 : IntKind.i64.wrap ((j : Int) + (k : Int)) = (p : Int) := by rw [IntKind.wrap_i64]; omega
      have w2 : IntKind.i64.wrap ((p : Int) + 1) = (q : Int) := by rw [IntKind.wrap_i64]; omega
      clear hp'
      have H1 := Lib.hid h1
      have H2 := Lib.hid h2
      have HU := Lib.hid ub
      clear h1 h2 hr2 ub hq' hr1 f0 f1 f2 f3
      go_wp2_with fail
      refine region_tail 15 (by kernel_rfl) (by kernel_rfl) ?_
      simp only [List.take_succ_cons, List.take_zero, List.drop_succ_cons, List.drop_zero]
      repeat still_step
      refine wpStill_nil ?_
      go_wp2_with (go_at_call 87; refine (HT.out wr.drew H1.out HU.out.drew).mono ?_; rintro e w2 ⟨rfl, h1, h2⟩)
      exact ⟨⟨j + 1, by omega, by go_num, h1, H2.out.trans ((Wrote.refl _ _).drew.trans h2)⟩, by simp only [intOf]; omega⟩
    · obtain rfl : j = k := by omega
      have hr2 := hr1.wrote h2 (by omega)
      have z := hr2.size
      rw [Nat.mod_eq_of_lt (Nat.lt_trans hA hlt)] at h1
      have hAC : A * C < B ^ (j + j) := by
        rw [Nat.pow_add]
        exact Nat.mul_lt_mul'' (Nat.lt_trans hA hlt) hC
      obtain ⟨q, hq⟩ : ∃ q, q = 2 * j := ⟨_, rfl⟩
      have es := fun w => arr_upto Tryd.num16 Tryd.siz16 Tryd.len16 (nb + 1 + 1 + 1) (q := q) (by omega) w
      have e2 : 2 * (j : Int) = (q : Int) := by omega
      have HL := Lib.hid fun w' h3 h4 => left_walk rb m s j (nb + 1 + 1 + 1) q 16 16 (A * C) (lb (A * C)) 128 w' h3 (by omega) (fun i _ => lb_lt _ _) h4 (by omega) (by omega) (by omega) (by omega) (by rw [vp_lb, hq, Nat.two_mul, Nat.mod_eq_of_lt hAC]) (by
        rw [hq, Nat.two_mul, Nat.add_sub_cancel, Nat.div_lt_iff_lt_mul (Bp j)]
        calc A * C ≤ A * B ^ j := Nat.mul_le_mul_left _ (Nat.le_of_lt hC)
          _ < m * B ^ j := Nat.mul_lt_mul_of_pos_right hA (Bp j))
      replace f2 := h2.other f2 (by omega)
      have H2 := Lib.hid h2
      have HR := Lib.hid hr2
      have H1 := Lib.hid h1
      have HQ := Lib.hid hq
      clear h1 h2 hr2 hr1 hq hAC hC hlt f0 f1 f3 hA hj hlt2
      go_wp2_with (go_at_call 78; refine (HL.out wr HR.out H1.out).mono ?_; rintro e w2 ⟨rfl, h2⟩; have f2' := h2.other f2 (by omega); go_upto_region 8 with (refine wpList_store_row rfl 107 _ _ rfl _ zU (ua 8 (lb (A * C % m))) rfl rfl f2' (infoU _) rfl (arr_one _ _ _) ?_))
      refine bodyPost_ret (v := .agg (ua 8 (lb (A * C % m)))) (results_cell_row rfl _ _ _ 107 (ua 8 (lb (A * C % m))) (0, 0) _ rfl (blk_row f2') Tryd.underlying107 rfl (infoU _)) rfl ⟨rfl, ?_⟩
      rw [HNB.out]
      have hW := H2.out.size
      exact ((HB0.out.trans (H2.out.below (by omega) (by omega))).trans (h2.below (by omega) (by omega))).trans (below_setRow (Below.refl _ _) (by omega) _)
end Go.Proofs.YtihefgpicnhdjaaDoor
/- What the method unshifted of package modexp's ring does. -/
namespace Go.Proofs.YtihefgpicnhdjaaDoor
open Go.RowKit SmWord
set_option maxRecDepth 100000

theorem one_ua {x : Nat} (h : x < B) : ua 8 (lb x) = #[Value.int .u64 (x : Int), Value.int .u64 0, Value.int .u64 0, Value.int .u64 0, Value.int .u64 0, Value.int .u64 0, Value.int .u64 0, Value.int .u64 0] := by
  have e : ∀ i, lb x (i + 1) = 0 := fun i => lb_high (k := 1) (by simpa using h) (by omega)
  have e0 : lb x 0 = x := by unfold lb; rw [Nat.pow_zero, Nat.div_one, Nat.mod_eq_of_lt h]
  show ((List.range 8).map fun i => Value.int .u64 ((lb x i : Nat) : Int)).toArray = _
  simp only [show List.range 8 = [0, 1, 2, 3, 4, 5, 6, 7] from rfl, List.map_cons, List.map_nil]
  rw [e0, e 0, e 1, e 2, e 3, e 4, e 5, e 6]
  rfl
/-- A part of a number that is shifted down. -/
theorem down_part (Y i : Nat) {s : Nat} (hs : s ≤ 63) : lb Y i / 2 ^ s ||| slo (lb Y (i + 1)) (64 - s) = lb (Y / 2 ^ s) i := by
  have hB : B = 2 ^ s * 2 ^ (64 - s) := by rw [← Nat.pow_add, show s + (64 - s) = 64 by omega]
  have h1 : ∀ y, y % B / 2 ^ s < 2 ^ (64 - s) := fun y => by
    rw [Nat.div_lt_iff_lt_mul (Nat.two_pow_pos _), Nat.mul_comm, ← hB]
    exact Nat.mod_lt _ (by decide)
  rw [Nat.or_comm, Go.nat_join (64 - s) _ _ (slo_mod (by omega)) (show lb Y i / 2 ^ s < 2 ^ (64 - s) from h1 _)]
  have e1 : Y / 2 ^ s / B ^ i = Y / B ^ i / 2 ^ s := by rw [Nat.div_div_eq_div_mul, Nat.div_div_eq_div_mul, Nat.mul_comm]
  have e2 : lb Y (i + 1) = Y / B ^ i / B % B := by unfold lb; rw [Nat.pow_succ, ← Nat.div_div_eq_div_mul]
  rw [e2]
  unfold lb
  rw [e1]
  generalize Y / B ^ i = y
  unfold slo
  have hp : 0 < 2 ^ s := Nat.two_pow_pos _
  have hr : 0 < 2 ^ (64 - s) := Nat.two_pow_pos _
  generalize 2 ^ s = p at *
  generalize 2 ^ (64 - s) = r at *
  have e3 : y / B % B * r % B = y / B * r % B := by
    rw [Nat.mul_mod, Nat.mod_mod, ← Nat.mul_mod]
  have e4 : y / p = y % B / p + y / B * r := by
    have : y = y % B + p * (y / B * r) := by
      have := Nat.mod_add_div y B
      have e5 : p * (y / B * r) = B * (y / B) := by
        rw [Nat.mul_left_comm, Nat.mul_comm p, Nat.mul_comm (y / B), Nat.mul_comm r, ← hB]
      rw [e5]
      exact this.symm
    conv => lhs; rw [this]
    rw [Nat.add_mul_div_left _ _ hp]
  rw [e3, e4]
  have h5 : y / B * r % B = p * 0 + y / B % p * r := by
    rw [hB, Nat.mul_comm p r, Nat.mul_comm (y / (r * p)) r, Nat.mul_mod_mul_left, Nat.mul_zero, Nat.zero_add, Nat.mul_comm]
  have h6 : (y % B / p + y / B * r) % B = y % B / p + y / B % p * r := by
    have e6 : y / B * r = y / B % p * r + B * (y / B / p) := by
      rw [hB]
      have := Nat.mod_add_div (y / (p * r)) p
      conv => lhs; rw [← this, Nat.add_mul, Nat.mul_right_comm]
    rw [e6, ← Nat.add_assoc, Nat.add_mul_mod_self_left, Nat.mod_eq_of_lt]
    have h7 : (y / B % p + 1) * r ≤ p * r := Nat.mul_le_mul_right _ (Nat.mod_lt _ hp)
    have h8 := h1 y
    rw [Nat.add_mul, ← hB] at h7
    omega
  rw [h5, h6, Nat.mul_zero, Nat.zero_add, Nat.add_comm]
theorem unsh_next {Y j : Nat} (s : Nat) (x0 : Nat) {v : Nat} (hv : v = lb (Y / 2 ^ s) j) :
    ua 8 (fun i => if i = j then v else (fun i => if i = j then x0 else (fun i => if i < j then lb (Y / 2 ^ s) i else lb Y i) i) i) = ua 8 (fun i => if i < j + 1 then lb (Y / 2 ^ s) i else lb Y i) := ua_congr fun i _ => by
  by_cases e : i = j
  · simp only [if_pos e]
    rw [if_pos (by omega), hv, e]
  · simp only [if_neg e]
    by_cases g : i < j
    · rw [if_pos g, if_pos (by omega)]
    · rw [if_neg g, if_neg (by omega)]
set_option maxHeartbeats 2000000 in
theorem unshifted_walk (rb m s k A Y : Nat) (w : World) (hr : Rg w rb m s k) (hA : A < m) (hY : Y = A * 2 ^ s % m) (hs : 2 ^ s < B ^ k) :
    Calls Tryd.prog 80 #[.pointer (some ⟨rb, 0, none⟩), .agg (ua 8 (lb A))] w fun e w' =>
      e = .returned (.agg (ua 8 (lb (Y / 2 ^ s)))) ∧ Below w.heap.size w w' := by
  have hs63 := hr.low
  have hsB : 2 ^ s < B := Nat.lt_of_le_of_lt (Nat.pow_le_pow_right (by decide) hs63) (by decide)
  go_enter Tryd.func80, Tryd.ntmps80
  go_upto_region 1 with fail
  rw [← zU_eq]
  have b0 : Below w.heap.size w ((w.alloc (.cells (ua 8 (lb A)) 107)).alloc (.cells zU 107)) := ((Below.refl _ _).alloc (Nat.le_refl _) _).alloc (by simp) _
  have f0 : ((w.alloc (.cells (ua 8 (lb A)) 107)).alloc (.cells zU 107)).heap[w.heap.size]? = some (.cells (ua 8 (lb A)) 107) := blk_alloc (heap_alloc_new _ _)
  have f1 : ((w.alloc (.cells (ua 8 (lb A)) 107)).alloc (.cells zU 107)).heap[w.heap.size + 1]? = some (.cells zU 107) := blk_fresh _ (by simp)
  have hrb : rb < w.heap.size := hr.here
  have hr1 := hr.below b0
  have HB0 := Lib.hid b0
  have hk8 := hr.most
  have hlt := hr.lt
  clear b0 hr
  generalize hW : ((w.alloc (.cells (ua 8 (lb A)) 107)).alloc (.cells zU 107)) = W at *
  clear hW
  have hs1 : w.heap.size + 1 < W.heap.size := (Array.getElem?_eq_some_iff.1 f1).1
  generalize hnb : w.heap.size = nb at *
  have HNB := Lib.hid hnb
  clear hnb
  have z := hr1.shift
  have HR := Lib.hid hr1
  have HP := Lib.hid fun w' h => product_walk rb m s k A (2 ^ s) w' h hA hs
  rw [← hY] at HP
  obtain ⟨T, hT⟩ : ∃ T, T = 2 ^ s := ⟨_, rfl⟩
  have eT : IntKind.u64.wrap ((2 : Int) ^ s) = (T : Int) := by
    have e : ((2 : Int) ^ s) = ((T : Nat) : Int) := by rw [hT]; simp
    rw [e, IntKind.wrap_u64]
    rw [hT]
    generalize 2 ^ s = t at *
    simp only [B] at hsB
    omega
  rw [← hT] at HP hsB
  rw [one_ua hsB] at HP
  have HT := Lib.hid hT
  clear hT
  have hYk : Hid (Y < B ^ k) := Lib.hid (by rw [hY]; exact Nat.lt_trans (Nat.mod_lt _ (Nat.lt_of_le_of_lt (Nat.zero_le _) hA)) hlt)
  have HY := Lib.hid hY
  clear hr1 hY hsB hs hA hlt
  refine region_last (aQ := ?aQ) 9 (by kernel_rfl) (by kernel_rfl) (fun w1 => ?hq) (fun w' hb => ?hh)
  case hq =>
    have d1 : ∀ g : Ext w1.on, g.on.cell? ⟨rb, 8, none⟩ = some (.int .u64 (s : Int)) := fun g => g.cell (w1.cell z)
    have hrg : ∀ g : Ext w1.on, Rg g.on rb m s k := fun g => ((HR.out.drew).below w1.below).below g.below
    simp only [List.take_succ_cons, List.take_zero]
    repeat (first | (go_big_quiet_want; refine quiet_load_row 107 _ rfl nb (ua 8 (lb A)) rfl (fun w2 hw2 => by obtain ⟨g, rfl⟩ := hw2; exact g.block (w1.block f0)) Tryd.underlying107 (infoU _) ?_; simp only [Act.put, List.setIfInBounds_toArray, List.set_cons_succ, List.set_cons_zero]; go_big_quiet_on) | go_big_quiet_step (first | (go_at_call 79; exact calls_ext (HP.out _ (hrg _)))))
    refine wpQuiet_nil ?_
    rfl
  case hh =>
    have hb' : Below W.heap.size W w' := hb
    replace f0 := Below.stays hb' f0
    have hr2 := HR.out.below hb'
    replace f1 := Below.stays hb' f1
    have HB1 := Lib.hid (HB0.out.trans (hb'.mono (by omega)))
    clear hb hb'
    simp only [List.drop_succ_cons, List.drop_zero]
    refine wpList_store_row rfl 107 _ _ rfl _ _ (ua 8 (lb Y)) rfl rfl f0 (infoU _) rfl (arr_one _ _ _) ?_
    refine wpList_nil ?_
    simp only [Act.put]
    replace f0 := blk_row (c' := ua 8 (lb Y)) f0
    replace f1 := blk_row_other (b := nb) (c' := ua 8 (lb Y)) f1 (by omega)
    have hw : Wrote nb w' (w'.setRow nb (ua 8 (lb Y))) := Wrote.row _ _
    replace hr2 := hr2.wrote hw (by omega)
    have hsz := hw.size
    have HB2 : Hid (Below nb w (w'.setRow nb (ua 8 (lb Y)))) := Lib.hid (HB1.out.trans (below_setRow (Below.refl _ _) (Nat.le_refl _) _))
    clear hw HB1 HB0 z HR HP
    have hs2 : nb + 1 < (w'.setRow nb (ua 8 (lb Y))).heap.size := (Array.getElem?_eq_some_iff.1 f1).1
    generalize w'.setRow nb (ua 8 (lb Y)) = V at *
    clear hsz
    have z := hr2.size
    have zs := hr2.shift
    go_wp2_with fail
    go_loopw [19] (fun i wr => ∃ j : Nat, j ≤ k ∧ i = .int .i64 (j : Int) ∧ wr.heap[nb]? = some (.cells (ua 8 (fun i => if i < j then lb (Y / 2 ^ s) i else lb Y i)) 107) ∧ Wrote nb V wr) (fun i _ => k - (intOf i).toNat)
    case atStart => exact ⟨0, Nat.zero_le _, rfl, by simpa using f0, Wrote.refl _ _⟩
    case round =>
      obtain ⟨j, hj, rfl, h1, h2⟩ := hrel
      have hr3 := hr2.wrote h2 (by omega)
      have f1' := h2.other f1 (by omega)
      clear z zs
      by_cases hlt2 : j < k
      · have c1 := blk_cell h1 (ua_get (fun i => if i < j then lb (Y / 2 ^ s) i else lb Y i) (show j < 8 by omega))
        rw [if_neg (by omega)] at c1
        have c3 := blk_frozen (j := j) h1
        have z := hr3.size
        have zs := hr3.shift
        have hj8 : (j : Int) < 8 := by omega
        have hj8' : j < 8 := by omega
        have H1 := Lib.hid h1
        have H2 := Lib.hid h2
        have hdp := down_part Y j hs63
        have l0 : lb Y j / 2 ^ s < B := Nat.lt_of_le_of_lt (Nat.div_le_self _ _) (lb_lt _ _)
        have e0 : ((lb Y j : Nat) : Int) / 2 ^ s = ((lb Y j / 2 ^ s : Nat) : Int) := by simp
        obtain ⟨x0, hx0⟩ : ∃ x, x = lb Y j / 2 ^ s := ⟨_, rfl⟩
        rw [← hx0] at hdp l0 e0
        clear hx0
        by_cases hk2 : j + 1 < k
        · have c4 := blk_cell h1 (ua_get (fun i => if i < j then lb (Y / 2 ^ s) i else lb Y i) (show j + 1 < 8 by omega))
          rw [if_neg (by omega)] at c4
          have e1 : IntKind.u64.wrap (((lb Y (j + 1) : Nat) : Int) * 2 ^ (64 - s)) = ((slo (lb Y (j + 1)) (64 - s) : Nat) : Int) := by
            have e : ((lb Y (j + 1) : Nat) : Int) * 2 ^ (64 - s) = ((lb Y (j + 1) * 2 ^ (64 - s) : Nat) : Int) := by simp
            rw [e, IntKind.wrap_u64]
            unfold slo
            simp only [B]
            omega
          have e64 : (64 : Int) - (s : Int) = ((64 - s : Nat) : Int) := by omega
          have hr64 : 64 - s ≤ 64 := by omega
          have e2 : bits .or .u64 (x0 : Int) ((slo (lb Y (j + 1)) (64 - s) : Nat) : Int) = ((lb (Y / 2 ^ s) j : Nat) : Int) := by
            rw [u64_or_nat _ _ l0 (slo_lt _ _), hdp]
          have w1 : IntKind.i64.wrap ((j : Int) + 1) = ((j + 1 : Nat) : Int) := by rw [IntKind.wrap_i64]; omega
          have w64 : IntKind.u64.wrap (((64 - s : Nat) : Int)) = ((64 - s : Nat) : Int) := by rw [IntKind.wrap_u64]; omega
          generalize slo (lb Y (j + 1)) (64 - s) = x1 at *
          generalize lb Y (j + 1) = y1 at *
          generalize 64 - s = r at *
          obtain ⟨j1, hj1⟩ : ∃ x, x = j + 1 := ⟨_, rfl⟩
          rw [← hj1] at c4 w1
          have hj18 : (j1 : Int) < 8 := by omega
          have hj1n : ¬ j1 = j := by omega
          have hj1m : ¬ j = j1 := by omega
          have HJ1 := Lib.hid hj1
          clear hj1
          have hc : decide ((j : Int) < (k : Int) - 1) = true := by simp; omega
          clear h1 h2
          go_wp2_with fail
          refine region_tail 9 (by kernel_rfl) (by kernel_rfl) ?_
          simp only [List.take_succ_cons, List.take_zero, List.drop_succ_cons, List.drop_zero]
          repeat still_step
          refine wpStill_nil ?_
          go_wp2_with fail
          refine region_tail 15 (by kernel_rfl) (by kernel_rfl) ?_
          simp only [List.take_succ_cons, List.take_zero, List.drop_succ_cons, List.drop_zero]
          repeat still_step
          refine wpStill_nil ?_
          go_wp2_with fail
          obtain rfl := HJ1.out
          refine ⟨⟨j + 1, by omega, rfl, ?_, ((H2.out.trans (Wrote.put _ _)).trans (Wrote.put _ _)).drew.drew⟩, by simp only [intOf]; omega⟩
          refine (blk_set (blk_set H1.out _) _).trans ?_
          rw [ua_set _ _ hj8', ua_set _ _ hj8']
          exact congrArg (fun c => some (Obj.cells c 107)) (unsh_next _ _ rfl)
        · have hx : x0 = lb (Y / 2 ^ s) j := by
            rw [← hdp, lb_high (X := Y) (k := k) (i := j + 1) hYk.out (by omega)]
            simp [slo]
          have hc : decide ((j : Int) < (k : Int) - 1) = false := by simp; omega
          have HX := Lib.hid hx
          clear h1 h2 hdp hx
          go_wp2_with fail
          refine region_tail 9 (by kernel_rfl) (by kernel_rfl) ?_
          simp only [List.take_succ_cons, List.take_zero, List.drop_succ_cons, List.drop_zero]
          repeat still_step
          refine wpStill_nil ?_
          go_wp2_with fail
          refine ⟨⟨j + 1, by omega, by go_num, ?_, (H2.out.trans (Wrote.put _ _)).drew⟩, by simp only [intOf]; omega⟩
          refine (blk_set H1.out _).trans ?_
          rw [ua_set _ _ hj8', HX.out]
          exact congrArg (fun c => some (Obj.cells c 107)) (ua_congr fun i _ => by
            by_cases e : i = j
            · rw [if_pos e, if_pos (by omega), e]
            · rw [if_neg e]
              by_cases g : i < j
              · rw [if_pos g, if_pos (by omega)]
              · rw [if_neg g, if_neg (by omega)])
      · obtain rfl : j = k := by omega
        have er : ua 8 (fun i => if i < j then lb (Y / 2 ^ s) i else lb Y i) = ua 8 (lb (Y / 2 ^ s)) := ua_congr fun i _ => by
          by_cases h : i < j
          · rw [if_pos h]
          · rw [if_neg h, lb_high hYk.out (by omega), lb_high (Nat.lt_of_le_of_lt (Nat.div_le_self _ _) hYk.out) (by omega)]
        rw [er] at h1
        have H2 := Lib.hid h2
        clear h2 hr3 hr2 er f0 f1
        go_wp2_with (first | (refine wpList_load_row rfl 107 _ rfl _ rfl 107 (ua 8 (lb (Y / 2 ^ s))) (0, 0) _ h1 Tryd.underlying107 rfl (infoU _) ?_) | (refine wpList_store_row rfl 107 _ _ rfl _ zU (ua 8 (lb (Y / 2 ^ s))) rfl rfl f1' (infoU _) rfl (arr_one _ _ _) ?_))
        refine bodyPost_ret (v := .agg (ua 8 (lb (Y / 2 ^ s)))) (results_cell_row rfl _ _ _ 107 (ua 8 (lb (Y / 2 ^ s))) (0, 0) _ rfl (blk_row f1') Tryd.underlying107 rfl (infoU _)) rfl ⟨rfl, ?_⟩
        rw [HNB.out]
        exact (HB2.out.trans (H2.out.below (Nat.le_refl _) (by omega))).trans (below_setRow (Below.refl _ _) (by omega) _)
end Go.Proofs.YtihefgpicnhdjaaDoor
