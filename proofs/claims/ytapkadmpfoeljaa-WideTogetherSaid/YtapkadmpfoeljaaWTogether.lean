/- The statement WideTogether: for every input it returns true, and leaves all older memory as it was. -/
import Derived.Test.YtapkadmpfoeljaaFixedB
import Derived.Test.YtapkadmpfoeljaaNumH
import Derived.Test.YtapkadmpfoeljaaFrame
import Derived.Deep.RegionHeld3
import Derived.Deep.RegionWith
namespace Go.Proofs.Ytapkadmpfoeljaa
open Go.ChangeShapes Go.WideShapes Go.ChangeAt Go.RowKit SmWord
set_option maxRecDepth 100000
theorem equal_yes {m n : Nat} (h : m % M = n % M) (w : World) : (Op.equalIn 10000 24 (.agg (wa m)) (.agg (wa n))).run Try.prog w = .ok true w := by
  rw [equal_wa, decide_eq_true h]

theorem less_yes (v u : Value) (n m X Y : Nat) (w : World) (h : NumS w v n X) (g : NumS w u m Y) (hlt : X < Y) : Calls Try.prog 16 #[v, u] w fun e w' => e = .returned (.bool true) ∧ w = w' :=
  (less_ref v u n m X Y w h g).mono fun _ _ ⟨h1, h2⟩ => ⟨by rw [h1, decide_eq_true hlt], h2⟩
theorem zero_yes (v : Value) (n X : Nat) (w : World) (h : NumS w v n X) (h0 : X = 0) : Calls Try.prog 17 #[v] w fun e w' => e = .returned (.bool true) ∧ w = w' :=
  (zero_ref v n X w h).mono fun _ _ ⟨h1, h2⟩ => ⟨by rw [h1, decide_eq_true h0], h2⟩

set_option maxHeartbeats 4000000 in
theorem together_walk1 (a b q r : Nat) (w : World) (hlt : Hid (r % M < b % M)) (hX : Hid ((q % M * (b % M) + r % M) % M = a % M)) (hzero : Hid ((q % M * (b % M) + r % M) / M = 0)) (hE : Hid (∀ w : World, (Op.equalIn 10000 24 (.agg (wa b)) (.agg (wa 0))).run Try.prog w = .ok false w)) (H1 : Hid (∀ w : World, Calls Try.prog 9 #[wd a, wd b] w fun e w' => e = .returned (.tuple #[wd q, wd r]) ∧ Below w.heap.size w w')) :
    Calls Try.prog 4 #[wd a, wd b] w fun e w' => e = .returned (.bool true) ∧ Below w.heap.size w w' := by
  have hp1 := store_pairA
  have hp2 := store_pairB
  have hsz := wa_size
  have hz := z4_wa
  go_enter Try.func4, Try.ntmps4
  go_upto_region 1 with fail
  have f2 : ((w.alloc (.cells (wa a) 24)).alloc (.cells (wa b) 24)).heap[w.heap.size]? = some (.cells (wa a) 24) := blk_alloc (blk_new _ rfl)
  have f3 : ((w.alloc (.cells (wa a) 24)).alloc (.cells (wa b) 24)).heap[w.heap.size + 1]? = some (.cells (wa b) 24) := blk_new _ (by simp)
  have bW : Below w.heap.size w ((w.alloc (.cells (wa a) 24)).alloc (.cells (wa b) 24)) := (((Below.refl _ _).alloc (Nat.le_refl _) _).alloc (by simp <;> omega) _)
  have sW : w.heap.size + 2 ≤ ((w.alloc (.cells (wa a) 24)).alloc (.cells (wa b) 24)).heap.size := by simp
  generalize ((w.alloc (.cells (wa a) 24)).alloc (.cells (wa b) 24)) = W at *
  clear hz
  go_wp2_with (refine wpList_load_row rfl 24 _ rfl _ rfl 24 _ (0, 0) _ (by assumption) Try.underlying24 rfl Try.infoWa ?_)
  refine (H1.out _).mono ?_
  rintro e w1 ⟨rfl, b1⟩
  replace f2 := Below.stays b1 f2
  replace f3 := Below.stays b1 f3
  replace bW := bW.trans (b1.mono bW.size)
  replace sW := Nat.le_trans sW b1.size
  clear b1
  go_upto_region 2 with fail
  replace f2 := blk_alloc (o' := .cells (wa r) 24) (blk_alloc (o' := .cells (wa q) 24) f2)
  replace f3 := blk_alloc (o' := .cells (wa r) 24) (blk_alloc (o' := .cells (wa q) 24) f3)
  have f5 : ((w1.alloc (.cells (wa q) 24)).alloc (.cells (wa r) 24)).heap[w1.heap.size]? = some (.cells (wa q) 24) := blk_alloc (blk_new _ rfl)
  have f6 : ((w1.alloc (.cells (wa q) 24)).alloc (.cells (wa r) 24)).heap[w1.heap.size + 1]? = some (.cells (wa r) 24) := blk_new _ (by simp)
  replace bW : Below w.heap.size w ((w1.alloc (.cells (wa q) 24)).alloc (.cells (wa r) 24)) := (bW.alloc (by omega) _).alloc (by simp; omega) _
  clear hp1 hp2 hsz sW
  generalize ((w1.alloc (.cells (wa q) 24)).alloc (.cells (wa r) 24)) = w2 at *
  generalize w1.heap.size = b5 at *
  have hz := z4_wa
  have he := hE.out
  have eg := Try.guardW
  go_upto_region 4 with (refine wpList_load_row rfl 24 _ rfl _ rfl 24 _ (0, 0) _ (by assumption) Try.underlying24 rfl Try.infoWa ?_)
  clear hz he
  go_cut [7] (fun s7 wx => NumS wx s7 66 (q % M * (b % M) + r % M) ∧ wx.heap[w.heap.size]? = some (.cells (wa a) 24) ∧ wx.heap[w.heap.size + 1]? = some (.cells (wa b) 24) ∧ wx.heap[b5]? = some (.cells (wa q) 24) ∧ wx.heap[b5 + 1]? = some (.cells (wa r) 24) ∧ Below w.heap.size w wx)
  case first =>
    have fo := fold_wa
    have bR := bW.drew
    go_region_held3 (fun w' => (w'.cell? ⟨b5, 0, none⟩ = some (.int .u64 ((l0 q : Nat) : Int)) ∧ w'.cell? ⟨b5, 1, none⟩ = some (.int .u64 ((l1 q : Nat) : Int)) ∧ w'.cell? ⟨b5, 2, none⟩ = some (.int .u64 ((l2 q : Nat) : Int)) ∧ w'.cell? ⟨b5, 3, none⟩ = some (.int .u64 ((l3 q : Nat) : Int))) ∧ (w'.cell? ⟨w.heap.size + 1, 0, none⟩ = some (.int .u64 ((l0 b : Nat) : Int)) ∧ w'.cell? ⟨w.heap.size + 1, 1, none⟩ = some (.int .u64 ((l1 b : Nat) : Int)) ∧ w'.cell? ⟨w.heap.size + 1, 2, none⟩ = some (.int .u64 ((l2 b : Nat) : Int)) ∧ w'.cell? ⟨w.heap.size + 1, 3, none⟩ = some (.int .u64 ((l3 b : Nat) : Int))) ∧ (w'.cell? ⟨b5 + 1, 0, none⟩ = some (.int .u64 ((l0 r : Nat) : Int)) ∧ w'.cell? ⟨b5 + 1, 1, none⟩ = some (.int .u64 ((l1 r : Nat) : Int)) ∧ w'.cell? ⟨b5 + 1, 2, none⟩ = some (.int .u64 ((l2 r : Nat) : Int)) ∧ w'.cell? ⟨b5 + 1, 3, none⟩ = some (.int .u64 ((l3 r : Nat) : Int)))) (exact ⟨word_cells f5, word_cells f3, word_cells f6⟩) (first | (go_at_call_of 11 (Value.agg (wa q)); refine (nof_ref q _).mono ?_; rintro e w' ⟨va, rfl, na, hna⟩; replace f2 := Below.stays hna f2; replace f3 := Below.stays hna f3; replace f5 := Below.stays hna f5; replace f6 := Below.stays hna f6; replace bR := bR.trans (hna.mono bR.size); (try replace nb := nb.stays hna); (try replace nc := nc.stays hna); (try replace nt := nt.stays hna)) | (go_at_call_of 11 (Value.agg (wa b)); refine (nof_ref b _).mono ?_; rintro e w' ⟨vb, rfl, nb, hnb⟩; replace f2 := Below.stays hnb f2; replace f3 := Below.stays hnb f3; replace f5 := Below.stays hnb f5; replace f6 := Below.stays hnb f6; replace bR := bR.trans (hnb.mono bR.size); (try replace na := na.stays hnb); (try replace nc := nc.stays hnb); (try replace nt := nt.stays hnb)) | (go_at_call_of 11 (Value.agg (wa r)); refine (nof_ref r _).mono ?_; rintro e w' ⟨vc, rfl, nc, hnc⟩; replace f2 := Below.stays hnc f2; replace f3 := Below.stays hnc f3; replace f5 := Below.stays hnc f5; replace f6 := Below.stays hnc f6; replace bR := bR.trans (hnc.mono bR.size); (try replace na := na.stays hnc); (try replace nb := nb.stays hnc); (try replace nt := nt.stays hnc)) | (go_at_call 15; refine (times_ref va vb 32 32 (q % M) (b % M) _ na nb ⟨by omega, by omega⟩).mono ?_; rintro e w' ⟨vt, rfl, nt, hT⟩; replace f2 := Below.stays hT f2; replace f3 := Below.stays hT f3; replace f5 := Below.stays hT f5; replace f6 := Below.stays hT f6; replace bR := bR.trans (hT.mono bR.size); (try replace na := na.stays hT); (try replace nb := nb.stays hT); (try replace nc := nc.stays hT)) | (go_at_call 14; refine (plus_ref vt vc (32 + 32 + 1) 32 (q % M * (b % M)) (r % M) _ nt nc ⟨by omega, by omega⟩).mono ?_; rintro e w' ⟨vp, rfl, np, hP⟩; replace f2 := Below.stays hP f2; replace f3 := Below.stays hP f3; replace f5 := Below.stays hP f5; replace f6 := Below.stays hP f6; replace bR := bR.trans (hP.mono bR.size); (try replace na := na.stays hP); (try replace nb := nb.stays hP); (try replace nc := nc.stays hP); (try replace nt := nt.stays hP)))
    all_goals
      go_wp2_with fail
      go_meet
      exact ⟨np, f2, f3, f5, f6, bR⟩
  case rest =>
    clear f2 f3 f5 f6 bW
    obtain ⟨np, f2, f3, f5, f6, bW⟩ := hcut
    obtain ⟨pb, po, pc, rfl, hpc⟩ := np.form (by omega)
    have nh := high_num np (by omega)
    go_wp2_with fail
    have bR := bW.drew
    replace np := np.stays (Below.refl _ _).drew
    replace nh := nh.stays (Below.refl _ _).drew
    have fo := fold_wa
    have e1 := fun w => equal_yes hX.out w
    go_region_held3 (fun w' => (w'.cell? ⟨b5 + 1, 0, none⟩ = some (.int .u64 ((l0 r : Nat) : Int)) ∧ w'.cell? ⟨b5 + 1, 1, none⟩ = some (.int .u64 ((l1 r : Nat) : Int)) ∧ w'.cell? ⟨b5 + 1, 2, none⟩ = some (.int .u64 ((l2 r : Nat) : Int)) ∧ w'.cell? ⟨b5 + 1, 3, none⟩ = some (.int .u64 ((l3 r : Nat) : Int))) ∧ (w'.cell? ⟨w.heap.size + 1, 0, none⟩ = some (.int .u64 ((l0 b : Nat) : Int)) ∧ w'.cell? ⟨w.heap.size + 1, 1, none⟩ = some (.int .u64 ((l1 b : Nat) : Int)) ∧ w'.cell? ⟨w.heap.size + 1, 2, none⟩ = some (.int .u64 ((l2 b : Nat) : Int)) ∧ w'.cell? ⟨w.heap.size + 1, 3, none⟩ = some (.int .u64 ((l3 b : Nat) : Int))) ∧ (w'.cell? ⟨w.heap.size, 0, none⟩ = some (.int .u64 ((l0 a : Nat) : Int)) ∧ w'.cell? ⟨w.heap.size, 1, none⟩ = some (.int .u64 ((l1 a : Nat) : Int)) ∧ w'.cell? ⟨w.heap.size, 2, none⟩ = some (.int .u64 ((l2 a : Nat) : Int)) ∧ w'.cell? ⟨w.heap.size, 3, none⟩ = some (.int .u64 ((l3 a : Nat) : Int)))) (exact ⟨word_cells f6, word_cells f3, word_cells f2⟩) (first | (go_at_call_of 11 (Value.agg (wa r)); refine (nof_ref r _).mono ?_; rintro e w' ⟨va, rfl, na, hna⟩; replace f2 := Below.stays hna f2; replace f3 := Below.stays hna f3; replace f5 := Below.stays hna f5; replace f6 := Below.stays hna f6; replace bR := bR.trans (hna.mono bR.size); (try replace nb := nb.stays hna); (try replace np := np.stays hna); (try replace nh := nh.stays hna)) | (go_at_call_of 11 (Value.agg (wa b)); refine (nof_ref b _).mono ?_; rintro e w' ⟨vb, rfl, nb, hnb⟩; replace f2 := Below.stays hnb f2; replace f3 := Below.stays hnb f3; replace f5 := Below.stays hnb f5; replace f6 := Below.stays hnb f6; replace bR := bR.trans (hnb.mono bR.size); (try replace na := na.stays hnb); (try replace np := np.stays hnb); (try replace nh := nh.stays hnb)) | (go_at_call 12; refine (fixed2_walk _).mono ?_; rintro e w' ⟨rfl, hF⟩; replace f2 := Below.stays hF f2; replace f3 := Below.stays hF f3; replace f5 := Below.stays hF f5; replace f6 := Below.stays hF f6; replace bR := bR.trans (hF.mono bR.size); (try replace na := na.stays hF); (try replace nb := nb.stays hF); (try replace np := np.stays hF); (try replace nh := nh.stays hF)) | (go_at_call 16; refine (less_yes va vb 32 32 (r % M) (b % M) _ na nb hlt.out).mono ?_; rintro e w' ⟨rfl, rfl⟩) | (go_at_call 13; refine (nword_ref _ 66 (q % M * (b % M) + r % M) _ np).mono ?_; rintro e w' ⟨rfl, hW⟩; replace f2 := Below.stays hW f2; replace f3 := Below.stays hW f3; replace f5 := Below.stays hW f5; replace f6 := Below.stays hW f6; replace bR := bR.trans (hW.mono bR.size); (try replace na := na.stays hW); (try replace nb := nb.stays hW); (try replace np := np.stays hW); (try replace nh := nh.stays hW)) | (go_at_call 18; refine (high_val _ _ _ _ _ (by omega) hpc).mono ?_; rintro e w' ⟨rfl, hH⟩; replace f2 := Below.stays hH f2; replace f3 := Below.stays hH f3; replace f5 := Below.stays hH f5; replace f6 := Below.stays hH f6; replace bR := bR.trans (hH.mono bR.size); (try replace na := na.stays hH); (try replace nb := nb.stays hH); (try replace np := np.stays hH); (try replace nh := nh.stays hH)) | (go_at_call 17; refine (zero_yes _ _ _ _ nh hzero.out).mono ?_; rintro e w' ⟨rfl, rfl⟩))
    all_goals
      clear e1
      go_wp2
      go_ret
      exact ⟨rfl, bR⟩

set_option maxHeartbeats 4000000 in
theorem together_walk0 (a b q r : Nat) (w : World) (hq : Hid (q % M = b % M)) (hr : Hid (r % M = b % M)) (hE : Hid (∀ w : World, (Op.equalIn 10000 24 (.agg (wa b)) (.agg (wa 0))).run Try.prog w = .ok true w)) (H1 : Hid (∀ w : World, Calls Try.prog 9 #[wd a, wd b] w fun e w' => e = .returned (.tuple #[wd q, wd r]) ∧ Below w.heap.size w w')) :
    Calls Try.prog 4 #[wd a, wd b] w fun e w' => e = .returned (.bool true) ∧ Below w.heap.size w w' := by
  have hp1 := store_pairA
  have hp2 := store_pairB
  have hsz := wa_size
  have hz := z4_wa
  go_enter Try.func4, Try.ntmps4
  go_upto_region 1 with fail
  have f2 : ((w.alloc (.cells (wa a) 24)).alloc (.cells (wa b) 24)).heap[w.heap.size]? = some (.cells (wa a) 24) := blk_alloc (blk_new _ rfl)
  have f3 : ((w.alloc (.cells (wa a) 24)).alloc (.cells (wa b) 24)).heap[w.heap.size + 1]? = some (.cells (wa b) 24) := blk_new _ (by simp)
  have bW : Below w.heap.size w ((w.alloc (.cells (wa a) 24)).alloc (.cells (wa b) 24)) := (((Below.refl _ _).alloc (Nat.le_refl _) _).alloc (by simp <;> omega) _)
  have sW : w.heap.size + 2 ≤ ((w.alloc (.cells (wa a) 24)).alloc (.cells (wa b) 24)).heap.size := by simp
  generalize ((w.alloc (.cells (wa a) 24)).alloc (.cells (wa b) 24)) = W at *
  clear hz
  go_wp2_with (refine wpList_load_row rfl 24 _ rfl _ rfl 24 _ (0, 0) _ (by assumption) Try.underlying24 rfl Try.infoWa ?_)
  refine (H1.out _).mono ?_
  rintro e w1 ⟨rfl, b1⟩
  replace f2 := Below.stays b1 f2
  replace f3 := Below.stays b1 f3
  replace bW := bW.trans (b1.mono bW.size)
  replace sW := Nat.le_trans sW b1.size
  clear b1
  go_upto_region 2 with fail
  replace f2 := blk_alloc (o' := .cells (wa r) 24) (blk_alloc (o' := .cells (wa q) 24) f2)
  replace f3 := blk_alloc (o' := .cells (wa r) 24) (blk_alloc (o' := .cells (wa q) 24) f3)
  have f5 : ((w1.alloc (.cells (wa q) 24)).alloc (.cells (wa r) 24)).heap[w1.heap.size]? = some (.cells (wa q) 24) := blk_alloc (blk_new _ rfl)
  have f6 : ((w1.alloc (.cells (wa q) 24)).alloc (.cells (wa r) 24)).heap[w1.heap.size + 1]? = some (.cells (wa r) 24) := blk_new _ (by simp)
  replace bW : Below w.heap.size w ((w1.alloc (.cells (wa q) 24)).alloc (.cells (wa r) 24)) := (bW.alloc (by omega) _).alloc (by simp; omega) _
  clear hp1 hp2 hsz sW
  generalize ((w1.alloc (.cells (wa q) 24)).alloc (.cells (wa r) 24)) = w2 at *
  generalize w1.heap.size = b5 at *
  have hz := z4_wa
  have he := hE.out
  have eg := Try.guardW
  go_upto_region 3 with (refine wpList_load_row rfl 24 _ rfl _ rfl 24 _ (0, 0) _ (by assumption) Try.underlying24 rfl Try.infoWa ?_)
  clear hz he
  have g3 := fun g : Ext w2 => g.word f3
  have g5 := fun g : Ext w2 => g.word f5
  have g6 := fun g : Ext w2 => g.word f6
  have fo := fold_wa
  have e1 := fun w => equal_yes hq.out w
  have e2 := fun w => equal_yes hr.out w
  refine region_seq ?_
  repeat (go_big_quiet_step ((go_at_call 12; exact calls_ext (fixed2_walk _))))
  refine wpQuiet_nil ?_
  rintro _ ⟨g, rfl⟩
  go_wp2
  go_ret
  exact ⟨rfl, bW.trans (g.below.mono bW.size)⟩
theorem together_walk (a b : Nat) (w : World) : Calls Try.prog 4 #[wd a, wd b] w fun e w' => e = .returned (.bool true) ∧ Below w.heap.size w w' := by
  by_cases hb : b % M = 0
  · have e : a % M / (b % M) = 0 := by rw [hb, Nat.div_zero]
    have e2 : rs (a % M) (b % M) = 0 := by rw [hb, rs_zero]
    refine together_walk0 a b _ _ w (Lib.hid ?_) (Lib.hid ?_) (Lib.hid fun w => equal_yes (by rw [hb, Nat.zero_mod]) w) (Lib.hid fun w => div_wd a b w)
    · rw [e, hb, Nat.zero_mod]
    · rw [e2, hb, Nat.zero_mod]
  · have hbM : b % M < M := Nat.mod_lt _ (by decide)
    have haM : a % M < M := Nat.mod_lt _ (by decide)
    have h1 := Nat.mod_lt (a % M) (show 0 < b % M by omega)
    have h2 := Nat.div_le_self (a % M) (b % M)
    have h3 := Nat.div_add_mod (a % M) (b % M)
    have eq : a % M / (b % M) % M = a % M / (b % M) := Nat.mod_eq_of_lt (by omega)
    have er : rs (a % M) (b % M) % M = a % M % (b % M) := by rw [rs_pos hb, Nat.mod_eq_of_lt (by omega)]
    have eX : a % M / (b % M) % M * (b % M) + rs (a % M) (b % M) % M = a % M := by rw [eq, er, Nat.mul_comm]; exact h3
    refine together_walk1 a b _ _ w (Lib.hid ?_) (Lib.hid ?_) (Lib.hid ?_) (Lib.hid fun w => ?_) (Lib.hid fun w => div_wd a b w)
    · rw [er]; exact h1
    · rw [eX, Nat.mod_mod]
    · rw [eX, Nat.div_eq_of_lt haM]
    · rw [equal_wa, Nat.zero_mod, decide_eq_false hb]

set_option maxRecDepth 100000 in
theorem together_lifted (os : Os) (started : os.Started) (H : Type) (enc : TypeId × Value → H) :
    ReturnsInHanded {} Try.checked os 4 .any (Rows.wideTogetherSpec.pre6 enc Try.prog Try.f4 Rows.wideTogetherRow.domain false) (Rows.wideTogetherSpec.post enc Try.prog Try.f4 false true false false) := by
  refine returnsInHanded_of_change (C := Try.checked) Try.own started (by kernel_rfl) Try.func4
    (ChangeSpec.witness6 (enc := enc) (C := Try.checked) false ⟨#[], #[w0000, w0000], []⟩ 8 (by kernel_rfl) (by kernel_rfl) (by kernel_rfl) (by kernel_rfl)) ?_
  intro W base args ds gs before hval0 hW hcnd _
  have hval : ∀ (j : Nat) t v, Try.f4.params[j]? = some t → args[j]? = some v → Value.okWide Try.prog W .any base t v := hval0
  have hW' := hW
  obtain ⟨p, q, hA0, hV, rfl, hfz, hnd⟩ := hW
  have hA : DataW.TrodAll enc Try.prog W 0 (fun _ => true) true Try.f4.params.toList args.toList ds p := hA0
  rw [Try.params4] at hA hval
  obtain ⟨v0, v1, d0, d1, p0, p1, rfl, rfl, rfl, h0, h1⟩ := trodAll_two hA
  obtain ⟨rfl, rfl⟩ := trodVars_none hV
  obtain ⟨a, rfl, rfl, rfl⟩ := open_word (hval 0 24 v0 rfl rfl) h0
  obtain ⟨b, rfl, rfl, rfl⟩ := open_word (hval 1 24 v1 rfl rfl) h1
  clear hA0 hval0
  simp only [List.append_nil] at hW'
  refine (together_walk a b W).mono fun e W' ⟨he, bel⟩ => ?_
  subst he
  exact ⟨_, rfl, _, _, _, [], _, [], hW', trodAll_mk1 (shut_bool Try.underlying4 _), trodAll_mk2 (shut_word a _ _) (shut_word b _ _), rfl, bel.frame _, fun h => by cases h⟩

theorem together_holds : Rows.WideTogetherSaid :=
  OpenClaim.holds_of_wide 4 Try.f4 rfl rfl rfl rfl rfl rfl rfl ⟨rfl, rfl, rfl, rfl, rfl⟩ rfl rfl rfl rfl rfl (by kernel_rfl) Try.func4 (by kernel_rfl)
    (of_decide_eq_true (by kernel_rfl)) (by unfold Func.isWrapper; first | (rw [if_pos (by decide +kernel)]; kernel_rfl) | (rw [if_neg (by decide +kernel)]; exact ⟨rfl, rfl⟩))
    (fun os started H enc _ => together_lifted os started H enc)
end Go.Proofs.Ytapkadmpfoeljaa
