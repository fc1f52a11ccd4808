/- Stage 14: a slot's key against a key; the search among an account's slots. -/
import Derived.Test.YtnjeoeekidnffaaGreatN8
import Derived.Test.YtnjeoeekidnffaaGreatN9
import Derived.Test.YtnjeoeekidnffaaGreatN3
namespace Go.Proofs.YtnjeoeekidnffaaGreat
open Go.RowKit SmWord
set_option maxRecDepth 100000

theorem quiet_load_mid {P : Program} {o : Oper} {a : Act} {C : World → Prop} {K : Act → Prop} (t : TypeId) (x : Operand) (ho : o.op = .load t x) (b off : Nat) (cs : List Value) {d : TypeDesc} (hx : a.eval x = .pointer (some ⟨b, off, none⟩))
    (hb : ∀ w, C w → w.rangeAt b off cs) (hu : P.underlying t = some d) (hd : d.isRow = true) (hi : (P.info? t).map (·.size) = some cs.length)
    (hk : K (a.put o.dst (.agg cs.toArray))) : o.quiet P a C K := by
  refine ⟨.agg cs.toArray, fun w hw => ?_, hk⟩
  unfold Oper.quietAt
  have h2 : (execOp a.eval o).run P w = .ok (.value (.agg cs.toArray)) w := by
    unfold execOp
    simp only [ho, hx, Instr.loadAt, Instr.sureAddr, Sem.run_bind, Sem.run_pure, Result.andThen_ok, run_loadVar_mid w b off t cs d (hb w hw) hu hd hi]
  rw [h2]
  exact ⟨rfl, rfl⟩
theorem infoW4 (n : Nat) : (Tryz.prog.info? 44).map (·.size) = some (wa n).toList.length := by rw [show (wa n).toList.length = 4 from rfl]; kernel_rfl
/-- What is stored at a key; 0. -/
def slotV (so : List (Nat × Nat)) (key : Nat) : Nat := ((so.find? fun s => s.1 == key).map (·.2)).getD 0
theorem slotV_at {so : List (Nat × Nat)} {k key : Nat} {s : Nat × Nat} (ho : ∀ s ∈ so.take k, s.1 ≠ key) (hs : so[k]? = some s) (he : s.1 = key) : slotV so key = s.2 := by
  have hl : so = so.take k ++ s :: so.drop (k + 1) := by
    have h1 := List.take_append_drop k so
    have hk : k < so.length := (List.getElem?_eq_some_iff.1 hs).1
    have h2 : so.drop k = s :: so.drop (k + 1) := by
      rw [List.drop_eq_getElem_cons hk]
      congr 1
      exact (List.getElem?_eq_some_iff.1 hs).2
    rw [h2] at h1
    exact h1.symm
  rw [hl]
  unfold slotV
  rw [List.find?_append]
  have : (so.take k).find? (fun s => s.1 == key) = none := by
    rw [List.find?_eq_none]
    intro y hy
    simp [ho y hy]
  rw [this]
  simp [he]
theorem slotV_none {so : List (Nat × Nat)} {key : Nat} (ho : ∀ s ∈ so, s.1 ≠ key) : slotV so key = 0 := by
  unfold slotV
  have : so.find? (fun s => s.1 == key) = none := by
    rw [List.find?_eq_none]
    intro y hy
    simp [ho y hy]
  rw [this]
  rfl
/-- How many keys stand ahead of a key; is it there? -/
def lowK : List (Nat × Nat) → Nat → Nat
  | [], _ => 0
  | s :: so, key => if s.1 < key then lowK so key + 1 else 0
def hasK (so : List (Nat × Nat)) (key : Nat) : Bool := decide (lowK so key < so.length) && decide ((sat so (lowK so key)).1 = key)
theorem sat_cons (s : Nat × Nat) (so : List (Nat × Nat)) (i : Nat) : sat (s :: so) (i + 1) = sat so i := by simp [sat]
theorem sat_zero (s : Nat × Nat) (so : List (Nat × Nat)) : sat (s :: so) 0 = s := by simp [sat]
theorem lowK_eq {key : Nat} : ∀ {so : List (Nat × Nat)} {i : Nat}, i ≤ so.length → (∀ j, j < i → (sat so j).1 < key) → (∀ j, i ≤ j → j < so.length → key ≤ (sat so j).1) → lowK so key = i
  | [], i, h, _, _ => by simp at h; simp [lowK, h]
  | s :: so, 0, _, _, h2 => by
    have := h2 0 (Nat.le_refl _) (by simp)
    rw [sat_zero] at this
    unfold lowK
    rw [if_neg (by omega)]
  | s :: so, i + 1, h, h1, h2 => by
    have h0 := h1 0 (by omega)
    rw [sat_zero] at h0
    unfold lowK
    rw [if_pos h0, lowK_eq (by simpa using h) (fun j hj => by have := h1 (j + 1) (by omega); rwa [sat_cons] at this) (fun j a b => by have := h2 (j + 1) (by omega) (by simpa using b); rwa [sat_cons] at this)]
theorem right_rise {so : List (Nat × Nat)} (h : rightS so = true) : ∀ d i, i + d + 1 < so.length → (sat so i).1 < (sat so (i + d + 1)).1
  | 0, i, hi => by
    rcases ((rightS_iff so).1 h (i + 1) hi).2 with h | h
    · omega
    · simpa using h
  | d + 1, i, hi => by
    have h1 := right_rise h d i (by omega)
    rcases ((rightS_iff so).1 h (i + d + 1 + 1) (by omega)).2 with h2 | h2
    · omega
    · rw [Nat.add_sub_cancel] at h2
      exact Nat.lt_trans h1 h2
theorem right_srt {so : List (Nat × Nat)} (h : rightS so = true) (i j : Nat) (hij : i < j) (hj : j < so.length) : (sat so i).1 < (sat so j).1 := by
  have := right_rise h (j - i - 1) i (by omega)
  rwa [show i + (j - i - 1) + 1 = j by omega] at this
theorem take_sat {so : List (Nat × Nat)} {k : Nat} {s : Nat × Nat} (h : s ∈ so.take k) : ∃ j, j < k ∧ j < so.length ∧ sat so j = s := by
  obtain ⟨j, hj, e⟩ := List.getElem_of_mem h
  rw [List.getElem_take] at e
  rw [List.length_take] at hj
  exact ⟨j, by omega, by omega, by simp [sat, ← e, show j < so.length by omega]⟩
theorem slot_hit {so : List (Nat × Nat)} {key i : Nat} (hi : i < so.length) (h1 : ∀ j, j < i → (sat so j).1 < key) (he : (sat so i).1 = key) : slotV so key = (sat so i).2 :=
  slotV_at (k := i) (fun s hs => by
    obtain ⟨j, hj, _, rfl⟩ := take_sat hs
    have := h1 j hj
    omega) (sat_get hi) he
theorem slot_miss {so : List (Nat × Nat)} {key i : Nat} (hs : rightS so = true) (h1 : ∀ j, j < i → (sat so j).1 < key) (h2 : ∀ j, i ≤ j → j < so.length → key ≤ (sat so j).1) (hn : ¬ (i < so.length ∧ (sat so i).1 = key)) : slotV so key = 0 :=
  slotV_none (fun s hm e => by
    obtain ⟨j, hj, e'⟩ := List.getElem_of_mem hm
    have e2 : sat so j = s := by simp [sat, ← e', hj]
    by_cases hji : j < i
    · have := h1 j hji
      rw [e2] at this
      omega
    · by_cases hij : j = i
      · subst hij
        exact hn ⟨hj, by rw [e2]; exact e⟩
      · have a := h2 i (Nat.le_refl _) (by omega)
        have b := right_srt hs i j (by omega) hj
        rw [e2] at b
        omega)
set_option maxHeartbeats 1000000 in
theorem ckey_walk (s : Nat × Nat) (key : Nat) (w : World) : Calls Tryz.prog 106 #[.agg (scs s).toArray, wd key] w fun e w' => e = .returned (.int .i64 (cmpN (s.1 % M) (key % M))) ∧ Below w.heap.size w w' := by
  unfold wd
  have hs : (scs s).toArray.size = 8 := by simp [scs_len]
  have hw := wa_size
  obtain ⟨W, hW⟩ : ∃ W, w.alloc (.cells (scs s).toArray 136) = W := ⟨_, rfl⟩
  have f0 : W.heap[w.heap.size]? = some (.cells (scs s).toArray 136) := hW ▸ heap_alloc_new _ _
  have bW : Below w.heap.size w W := hW ▸ (Below.refl _ _).alloc (Nat.le_refl _) _
  obtain ⟨V, hV⟩ : ∃ V, W.alloc (.cells (wa key) 44) = V := ⟨_, rfl⟩
  have f1 : V.heap[W.heap.size]? = some (.cells (wa key) 44) := hV ▸ heap_alloc_new _ _
  have bV : Below W.heap.size W V := hV ▸ (Below.refl _ _).alloc (Nat.le_refl _) _
  have l0 := (slotcells (rng_block (stay bV f0)).at).1
  have l1 : V.rangeAt W.heap.size 0 (wa key).toList := (rng_block (cs := (wa key).toList) (by simpa using f1)).at
  have HB := Lib.hid (bW.trans (bV.mono bW.size))
  have KC := Lib.hid (compare_wd s.1 key)
  unfold wd at KC
  clear f0 f1 bW bV
  generalize cmpN (s.1 % M) (key % M) = r at *
  go_enter Tryz.func106, Tryz.ntmps106
  go_upto_region 1 with fail
  clear hW hV
  go_wp2_with (first
    | (refine wpList_load_mid rfl 44 _ rfl w.heap.size 0 rfl (wa s.1).toList _ l0 Tryz.underlying44 rfl (infoW4 _) ?_; simp only [Array.toArray_toList])
    | (refine wpList_load_mid rfl 44 _ rfl W.heap.size 0 rfl (wa key).toList _ l1 Tryz.underlying44 rfl (infoW4 _) ?_; simp only [Array.toArray_toList])
    | (go_at_call 126; refine (KC.out _).mono ?_; rintro e w1 ⟨rfl, b1⟩; replace HB := Lib.hid (HB.out.trans (b1.mono HB.out.size)); clear b1))
  go_ret
  exact ⟨rfl, HB.out⟩
/-- How many keys stand ahead. -/
theorem wrap_mid {a b : Nat} (h : a + b ≤ 4000000) : (IntKind.u64.wrap ((a : Int) + (b : Int))) = ((a + b : Nat) : Int) := by
  rw [show (a : Int) + (b : Int) = ((a + b : Nat) : Int) from rfl]
  unfold IntKind.wrap
  simp [IntKind.bits, IntKind.signed]
  omega
set_option maxHeartbeats 4000000 in
theorem bsf_walk (qa : Option Addr) (c key : Nat) (so : List (Nat × Nat)) (w : World) (hl : so.length ≤ 1000000) (hcells : 0 < so.length → ∃ b off, qa = some ⟨b, off, none⟩ ∧ ∀ i s, so[i]? = some s → rng (hp w) b (off + i * 8) (scs s))
    (hM : ∀ s ∈ so, s.1 < M ∧ s.2 < M) (hk : key < M) (hs : ∀ i j, i < j → j < so.length → (sat so i).1 < (sat so j).1) :
    Calls Tryz.prog 105 #[.slice qa so.length c, wd key, .func (.func 106) #[] #[]] w fun e w' => ∃ i : Nat, i ≤ so.length ∧ e = .returned (.tuple #[.int .i64 (i : Int), .bool (decide (i < so.length) && decide ((sat so i).1 = key))]) ∧
      (∀ j, j < i → (sat so j).1 < key) ∧ (∀ j, i ≤ j → j < so.length → key ≤ (sat so j).1) ∧ Below w.heap.size w w' := by
  unfold wd
  have hw := wa_size
  have eg : ∀ args w, (callFunc 106 args).run Tryz.prog w = .ok (.enter 106 args) w := enters_of Tryz.func106 (by kernel_rfl) rfl
  obtain ⟨W, hW⟩ : ∃ W, w.alloc (.cells (wa key) 44) = W := ⟨_, rfl⟩
  have f0 : W.heap[w.heap.size]? = some (.cells (wa key) 44) := hW ▸ heap_alloc_new _ _
  have bW : Below w.heap.size w W := hW ▸ (Below.refl _ _).alloc (Nat.le_refl _) _
  have HB := Lib.hid bW
  have F0 := Lib.hid f0
  have HM := Lib.hid hM
  have HS := Lib.hid hs
  have HK := Lib.hid hk
  have HC : Hid (0 < so.length → ∃ b off, qa = some ⟨b, off, none⟩ ∧ ∀ i s, so[i]? = some s → rng (hp W) b (off + i * 8) (scs s)) := Lib.hid fun hn => by
    obtain ⟨b, off, e, hi⟩ := hcells hn
    exact ⟨b, off, e, fun i s hs => (hi i s hs).sub (hp_below bW)⟩
  clear hcells f0 bW hM hs hk
  generalize hN : so.length = n at *
  have HN := Lib.hid hN
  clear hN
  go_enter Tryz.func105, Tryz.ntmps105
  go_upto_region 1 with fail
  clear hW
  go_wp2_with fail
  go_loopw [9, 10] (fun u v wr => ∃ a b : Nat, u = .int .i64 a ∧ v = .int .i64 b ∧ a ≤ b ∧ b ≤ n ∧ Hid (∀ j, j < a → (sat so j).1 < key) ∧ Hid (∀ j, b ≤ j → j < n → key ≤ (sat so j).1) ∧ Hid (Below W.heap.size W wr)) (fun u v _ => (intOf v).toNat - (intOf u).toNat)
  case atStart => exact ⟨0, n, rfl, rfl, Nat.zero_le _, Nat.le_refl _, Lib.hid (fun j hj => absurd hj (by omega)), Lib.hid (fun j h1 h2 => absurd h2 (by omega)), Lib.hid (Below.refl _ _)⟩
  case round =>
    obtain ⟨a, b, rfl, rfl, hab, hbn, HA, HZ, HW⟩ := hrel
    by_cases hlt : a < b
    · obtain ⟨g, off, rfl, hi⟩ := HC.out (by omega)
      have hwr := wrap_mid (a := a) (b := b) (by omega)
      clear hwr
      go_upto_region 5 with fail
      obtain ⟨m, hm⟩ : ∃ m : Nat, ((a : Int) + (b : Int)) / 2 = (m : Int) := ⟨(a + b) / 2, by omega⟩
      rw [hm]
      have hma : a ≤ m := by omega
      have hmb : m < b := by omega
      have hmn : m < n := by omega
      obtain ⟨s, hs1⟩ : ∃ s, sat so m = s := ⟨_, rfl⟩
      have hsg : so[m]? = some s := by rw [← hs1]; exact sat_get (by rw [HN.out]; exact hmn)
      have HSM := Lib.hid hs1
      have hMs := HM.out s (List.mem_of_getElem? hsg)
      have r0 := fun g1 : Ext wr => ((hi m s hsg).sub (hp_below (HW.out.trans (g1.below.mono HW.out.size)))).at
      have r1 : ∀ g1 : Ext wr, g1.on.rangeAt w.heap.size 0 (wa key).toList := fun g1 => (rng_block (cs := (wa key).toList) (by simpa using g1.block (stay HW.out F0.out))).at
      have KC := Lib.hid (ckey_walk s key)
      rw [Nat.mod_eq_of_lt hMs.1, Nat.mod_eq_of_lt HK.out] at KC
      unfold wd at KC
      have HMs := Lib.hid hMs
      have HHi := Lib.hid hi
      clear hs1 hsg hMs hi
      have hcm : (cmpN s.1 key < 0 ∧ s.1 < key) ∨ (¬ cmpN s.1 key < 0 ∧ key ≤ s.1) := by
        by_cases h : s.1 < key
        · exact .inl ⟨(cmpN_lt _ _).2 h, h⟩
        · exact .inr ⟨fun h' => h ((cmpN_lt _ _).1 h'), by omega⟩
      generalize cmpN s.1 key = r at *
      rcases hcm with ⟨hr, hsk⟩ | ⟨hr, hsk⟩
      · have HSK := Lib.hid hsk
        clear hsk
        refine region_ext (by kernel_rfl) (by kernel_rfl) ?_
        repeat (first
          | (go_big_quiet_want; refine quiet_load_mid 136 _ rfl g (off + m * 8) (scs s) rfl (fun w2 hw2 => by obtain ⟨g1, rfl⟩ := hw2; exact r0 g1) Tryz.underlying136 rfl (infoScs _) ?_; simp only [Act.put, List.setIfInBounds_toArray, List.set_cons_succ, List.set_cons_zero]; go_big_quiet_on)
          | (go_big_quiet_want; refine quiet_load_mid 44 _ rfl w.heap.size 0 (wa key).toList rfl (fun w2 hw2 => by obtain ⟨g1, rfl⟩ := hw2; exact r1 g1) Tryz.underlying44 rfl (infoW4 _) ?_; simp only [Act.put, List.setIfInBounds_toArray, List.set_cons_succ, List.set_cons_zero, Array.toArray_toList]; go_big_quiet_on)
          | go_big_quiet_step (first | (go_at_fn 106; with_reducible exact calls_ext (KC.out _))))
        refine wpQuiet_nil ?_
        rintro w' ⟨gg, rfl⟩
        have HWg := Lib.hid (HW.out.trans (gg.below.mono HW.out.size))
        clear r0 r1 KC
        generalize gg.on = wg at *
        go_wp2_with fail
        exact ⟨⟨m + 1, b, by go_num, rfl, by omega, hbn, Lib.hid (fun j hj => by
          by_cases e : j = m
          · rw [e, HSM.out]; exact HSK.out
          · have := HS.out j m (by omega) hmn
            rw [HSM.out] at this
            exact Nat.lt_trans this HSK.out), HZ, HWg⟩, by simp [intOf]; omega⟩
      · have HSK := Lib.hid hsk
        clear hsk
        refine region_ext (by kernel_rfl) (by kernel_rfl) ?_
        repeat (first
          | (go_big_quiet_want; refine quiet_load_mid 136 _ rfl g (off + m * 8) (scs s) rfl (fun w2 hw2 => by obtain ⟨g1, rfl⟩ := hw2; exact r0 g1) Tryz.underlying136 rfl (infoScs _) ?_; simp only [Act.put, List.setIfInBounds_toArray, List.set_cons_succ, List.set_cons_zero]; go_big_quiet_on)
          | (go_big_quiet_want; refine quiet_load_mid 44 _ rfl w.heap.size 0 (wa key).toList rfl (fun w2 hw2 => by obtain ⟨g1, rfl⟩ := hw2; exact r1 g1) Tryz.underlying44 rfl (infoW4 _) ?_; simp only [Act.put, List.setIfInBounds_toArray, List.set_cons_succ, List.set_cons_zero, Array.toArray_toList]; go_big_quiet_on)
          | go_big_quiet_step (first | (go_at_fn 106; with_reducible exact calls_ext (KC.out _))))
        refine wpQuiet_nil ?_
        rintro w' ⟨gg, rfl⟩
        have HWg := Lib.hid (HW.out.trans (gg.below.mono HW.out.size))
        clear r0 r1 KC
        generalize gg.on = wg at *
        go_wp2_with fail
        exact ⟨⟨a, m, rfl, rfl, hma, by omega, HA, Lib.hid (fun j h1 h2 => by
          by_cases e : j = m
          · rw [e, HSM.out]; exact HSK.out
          · have := HS.out m j (by omega) h2
            rw [HSM.out] at this
            exact Nat.le_trans HSK.out (Nat.le_of_lt this)), HWg⟩, by simp [intOf]; omega⟩
    · obtain rfl : a = b := by omega
      by_cases han : a < n
      · obtain ⟨g, off, rfl, hi⟩ := HC.out (by omega)
        obtain ⟨s, hs1⟩ : ∃ s, sat so a = s := ⟨_, rfl⟩
        have hsg : so[a]? = some s := by rw [← hs1]; exact sat_get (by rw [HN.out]; exact han)
        have HSM := Lib.hid hs1
        have hMs := HM.out s (List.mem_of_getElem? hsg)
        have r0 := fun g1 : Ext wr => ((hi a s hsg).sub (hp_below (HW.out.trans (g1.below.mono HW.out.size)))).at
        have r1 : ∀ g1 : Ext wr, g1.on.rangeAt w.heap.size 0 (wa key).toList := fun g1 => (rng_block (cs := (wa key).toList) (by simpa using g1.block (stay HW.out F0.out))).at
        have KC := Lib.hid (ckey_walk s key)
        rw [Nat.mod_eq_of_lt hMs.1, Nat.mod_eq_of_lt HK.out] at KC
        unfold wd at KC
        have HHi := Lib.hid hi
        clear hs1 hsg hMs hi
        have hcm : (cmpN s.1 key == 0) = decide (s.1 = key) := by
          unfold cmpN
          by_cases h1 : s.1 < key
          · simp [h1]; omega
          · by_cases h2 : key < s.1
            · simp [h1, h2]; omega
            · have : s.1 = key := by omega
              simp [this]
        have HCM := Lib.hid hcm
        clear hcm
        generalize cmpN s.1 key = r at *
        go_upto_region 8 with fail
        refine region_ext (by kernel_rfl) (by kernel_rfl) ?_
        repeat (first
          | (go_big_quiet_want; refine quiet_load_mid 136 _ rfl g (off + a * 8) (scs s) rfl (fun w2 hw2 => by obtain ⟨g1, rfl⟩ := hw2; exact r0 g1) Tryz.underlying136 rfl (infoScs _) ?_; simp only [Act.put, List.setIfInBounds_toArray, List.set_cons_succ, List.set_cons_zero]; go_big_quiet_on)
          | (go_big_quiet_want; refine quiet_load_mid 44 _ rfl w.heap.size 0 (wa key).toList rfl (fun w2 hw2 => by obtain ⟨g1, rfl⟩ := hw2; exact r1 g1) Tryz.underlying44 rfl (infoW4 _) ?_; simp only [Act.put, List.setIfInBounds_toArray, List.set_cons_succ, List.set_cons_zero, Array.toArray_toList]; go_big_quiet_on)
          | go_big_quiet_step (first | (go_at_fn 106; with_reducible exact calls_ext (KC.out _))))
        refine wpQuiet_nil ?_
        rintro w' ⟨gg, rfl⟩
        have HWg := Lib.hid (HW.out.trans (gg.below.mono HW.out.size))
        clear r0 r1 KC
        generalize gg.on = wg at *
        go_wp2_with fail
        go_ret2
        refine ⟨a, by omega, ?_, HA.out, HZ.out, HB.out.trans (HWg.out.mono HB.out.size)⟩
        show Ending.returned (Value.tuple #[Value.int IntKind.i64 (a : Int), Value.bool (r == 0)]) = _
        rw [HCM.out, HSM.out, decide_eq_true han]
        rfl
      · obtain rfl : a = n := by omega
        go_upto_region 8 with fail
        refine region_ext (by kernel_rfl) (by kernel_rfl) ?_
        repeat (go_big_quiet_step (fail))
        refine wpQuiet_nil ?_
        rintro w' ⟨gg, rfl⟩
        have HWg := Lib.hid (HW.out.trans (gg.below.mono HW.out.size))
        generalize gg.on = wg at *
        go_wp2_with fail
        go_ret2
        refine ⟨a, by omega, ?_, HA.out, HZ.out, HB.out.trans (HWg.out.mono HB.out.size)⟩
        show Ending.returned (Value.tuple #[Value.int IntKind.i64 (a : Int), Value.bool false]) = _
        rw [decide_eq_false (Nat.lt_irrefl a)]
        rfl
/-- The same, told by plain words. -/
theorem bsf_low (qa : Option Addr) (c key : Nat) (so : List (Nat × Nat)) (w : World) (hl : so.length ≤ 1000000) (hcells : 0 < so.length → ∃ b off, qa = some ⟨b, off, none⟩ ∧ ∀ i s, so[i]? = some s → rng (hp w) b (off + i * 8) (scs s))
    (hM : ∀ s ∈ so, s.1 < M ∧ s.2 < M) (hk : key < M) (hs : rightS so = true) :
    Calls Tryz.prog 105 #[.slice qa so.length c, wd key, .func (.func 106) #[] #[]] w fun e w' => e = .returned (.tuple #[.int .i64 (lowK so key : Int), .bool (hasK so key)]) ∧ Below w.heap.size w w' :=
  (bsf_walk qa c key so w hl hcells hM hk (right_srt hs)).mono fun e w' ⟨i, hi, he, h1, h2, hb⟩ => by
    have := lowK_eq hi h1 h2
    unfold hasK
    rw [this]
    exact ⟨he, hb⟩
theorem lowK_le (key : Nat) : ∀ so : List (Nat × Nat), lowK so key ≤ so.length
  | [] => Nat.le_refl _
  | s :: so => by
    unfold lowK
    split
    · have := lowK_le key so; simp; omega
    · exact Nat.zero_le _
theorem low_spec {so : List (Nat × Nat)} (hs : rightS so = true) (key : Nat) : (∀ j, j < lowK so key → (sat so j).1 < key) ∧ ∀ j, lowK so key ≤ j → j < so.length → key ≤ (sat so j).1 := by
  induction so with
  | nil => exact ⟨fun j hj => by simp [lowK] at hj, fun j _ hj => by simp at hj⟩
  | cons s so ih =>
    have hs' : rightS so = true := by
      cases so with
      | nil => rfl
      | cons t so => simp only [rightS, Bool.and_eq_true] at hs; exact hs.2
    obtain ⟨i1, i2⟩ := ih hs'
    unfold lowK
    by_cases h : s.1 < key
    · rw [if_pos h]
      refine ⟨fun j hj => ?_, fun j h1 h2 => ?_⟩
      · cases j with
        | zero => rw [sat_zero]; exact h
        | succ j => rw [sat_cons]; exact i1 j (by omega)
      · cases j with
        | zero => omega
        | succ j => rw [sat_cons]; exact i2 j (by omega) (by simpa using h2)
    · rw [if_neg h]
      refine ⟨fun j hj => absurd hj (by omega), fun j _ h2 => ?_⟩
      cases j with
      | zero => rw [sat_zero]; omega
      | succ j =>
        have := right_srt hs 0 (j + 1) (by omega) h2
        rw [sat_zero] at this
        omega
theorem slot_found {so : List (Nat × Nat)} (hs : rightS so = true) {key : Nat} (h : hasK so key = true) : lowK so key < so.length ∧ slotV so key = (sat so (lowK so key)).2 := by
  unfold hasK at h
  simp only [Bool.and_eq_true, decide_eq_true_eq] at h
  exact ⟨h.1, slot_hit h.1 (low_spec hs key).1 h.2⟩
theorem slot_lost {so : List (Nat × Nat)} (hs : rightS so = true) {key : Nat} (h : hasK so key = false) : slotV so key = 0 := by
  refine slot_miss hs (low_spec hs key).1 (low_spec hs key).2 fun h' => ?_
  unfold hasK at h
  rw [decide_eq_true h'.1, decide_eq_true h'.2] at h
  cases h
end Go.Proofs.YtnjeoeekidnffaaGreat
/- Stage 14: what an account has stored: a storage in memory; atFirst and load walked. -/
namespace Go.Proofs.YtnjeoeekidnffaaGreat
open Go.RowKit SmWord Go.Maps
set_option maxRecDepth 100000

/-- Block p of w is a storage: first so, now g (at most n entries), its map is block m. -/
structure StoAt (w : World) (p : Nat) (so : List (Nat × Nat)) (g : Nat → Option Nat) (n m : Nat) : Prop where
  at' : ∃ qa c, w.heap[p]? = some (.cells #[.slice qa so.length c, .map (some m)] 164) ∧ (0 < so.length → ∃ b off, qa = some ⟨b, off, none⟩ ∧ ∀ i s, so[i]? = some s → rng (hp w) b (off + i * 8) (scs s))
  sl : so.length ≤ 1000000
  sM : ∀ s ∈ so, s.1 < M ∧ s.2 < M
  right : rightS so = true
  map : mapIsW w m n (fun k => (g k).map wd)
  gM : ∀ k v, g k = some v → v < M
/-- What it holds at a key. -/
def stoV (so : List (Nat × Nat)) (g : Nat → Option Nat) (k : Nat) : Nat := (g k).getD (slotV so k)
theorem StoAt.below {w w' : World} {p : Nat} {so : List (Nat × Nat)} {g : Nat → Option Nat} {n m : Nat} (h : StoAt w p so g n m) (hb : Below w.heap.size w w') : StoAt w' p so g n m := by
  obtain ⟨qa, c, h1, h2⟩ := h.at'
  refine ⟨⟨qa, c, stay hb h1, fun hn => ?_⟩, h.sl, h.sM, h.right, h.map.same ?_, h.gM⟩
  · obtain ⟨b, off, e, hi⟩ := h2 hn
    exact ⟨b, off, e, fun i s hs => (hi i s hs).sub (hp_below hb)⟩
  · obtain ⟨D, ⟨es, clock, e1, _⟩, _⟩ := h.map
    rw [stay hb e1, e1]
theorem slotV_lt {so : List (Nat × Nat)} (hM : ∀ s ∈ so, s.1 < M ∧ s.2 < M) (k : Nat) : slotV so k < M := by
  unfold slotV
  cases hf : so.find? fun s => s.1 == k with
  | none => exact (by decide : 0 < M)
  | some s => exact (hM s (List.mem_of_find?_eq_some hf)).2
theorem StoAt.lt {w : World} {p : Nat} {so : List (Nat × Nat)} {g : Nat → Option Nat} {n m : Nat} (h : StoAt w p so g n m) (k : Nat) : stoV so g k < M := by
  unfold stoV
  cases hg : g k with
  | none => exact slotV_lt h.sM k
  | some v => exact h.gM k v hg
theorem store_oldW {w : World} {b n m : Nat} (hb : w.heap[b]? = some (.cells (wa n) 44)) : (storeCells ⟨b, 0, none⟩ (wa m).toList 0).run Tryz.prog w = .ok () (w.setRow b (wa m)) := by
  have := run_storeCells_from (P := Tryz.prog) b 44 (wa m).toList 0 (wa n) w hb (by simp [wa_size]) (fun v hv => (Array.all_eq_true_iff_forall_mem.1 (wa_one (n := m))) v (by simpa using hv))
  simpa using this
theorem wboxes (w : World) (k : Nat) : ∃ W, (w.alloc (.cells (wa k) 44)).alloc (.cells (wa 0) 44) = W ∧ W.heap[w.heap.size]? = some (.cells (wa k) 44) ∧ W.heap[w.heap.size + 1]? = some (.cells (wa 0) 44) ∧ Below w.heap.size w W ∧ W.heap.size = w.heap.size + 2 := by
  exact ⟨_, rfl, blk_alloc (heap_alloc_new _ _), heap_alloc2_new _ _ _, ((Below.refl _ _).alloc (Nat.le_refl _) _).alloc (by simp) _, by simp⟩
set_option maxHeartbeats 4000000 in
theorem first_walk {p : Nat} {so : List (Nat × Nat)} {g : Nat → Option Nat} {n m : Nat} (k : Nat) (w : World) (h : StoAt w p so g n m) (hk : k < M) :
    Calls Tryz.prog 78 #[.pointer (some ⟨p, 0, none⟩), wd k] w fun e w' => e = .returned (wd (slotV so k)) ∧ Below w.heap.size w w' := by
  have hw := wa_size
  have e0 := z4w
  obtain ⟨qa, qc, hp, hqcells⟩ := h.at'
  have hsl := h.sl
  have HMs := Lib.hid h.sM
  have HRs := Lib.hid h.right
  have HK := Lib.hid hk
  clear h hk
  obtain ⟨W, hW, f0, f1, bW, sW⟩ := wboxes w k
  have F0 := Lib.hid f0
  have F1 := Lib.hid f1
  have HB := Lib.hid bW
  have hpW := stay bW hp
  have p0' : W.cell? ⟨p, 0, none⟩ = some (.slice qa so.length qc) := by simp [World.cell?, hpW]
  have p0 : ∀ g1 : Ext W, g1.on.cell? ⟨p, 0, none⟩ = some (.slice qa so.length qc) := fun g1 => (g1.below.cell (p := ⟨p, 0, none⟩) (by simpa using World.block_lt_of_cell? W _ p0')).trans p0'
  have r1 : ∀ g1 : Ext W, g1.on.rangeAt w.heap.size 0 (wa k).toList := fun g1 => (rng_block (cs := (wa k).toList) (by simpa using g1.block F0.out)).at
  have KB := Lib.hid fun g1 : Ext W => bsf_low qa qc k so g1.on hsl (fun hn => by
    obtain ⟨b', off, e, hi⟩ := hqcells hn
    exact ⟨b', off, e, fun i s hs => (hi i s hs).sub (hp_below (HB.out.trans (g1.below.mono HB.out.size)))⟩) HMs.out HK.out HRs.out
  unfold wd at KB
  have HQC := Lib.hid hqcells
  have hlow := lowK_le k so
  have P0 := Lib.hid p0
  clear hqcells hp hpW p0' f0 f1 bW
  obtain ⟨i, hi⟩ : ∃ i, lowK so k = i := ⟨_, rfl⟩
  have HI := Lib.hid hi
  rw [hi] at KB hlow
  clear hi
  unfold wd
  go_enter Tryz.func78, Tryz.ntmps78
  go_upto_region 1 with fail
  clear hW
  cases hf : hasK so k
  · rw [hf] at KB
    have HF := Lib.hid (slot_lost HRs.out hf)
    clear hf
    generalize hN : so.length = n at *
    have HN := Lib.hid hN
    clear hN
    refine region_ext (by kernel_rfl) (by kernel_rfl) ?_
    repeat (first
      | (go_big_quiet_want; refine quiet_load_mid 44 _ rfl w.heap.size 0 (wa k).toList rfl (fun w2 hw2 => by obtain ⟨g1, rfl⟩ := hw2; exact r1 g1) Tryz.underlying44 rfl (infoW4 _) ?_; simp only [Act.put, List.setIfInBounds_toArray, List.set_cons_succ, List.set_cons_zero, Array.toArray_toList]; go_big_quiet_on)
      | go_big_quiet_step (first | (go_at_call 105; with_reducible exact calls_ext (KB.out _))))
    refine wpQuiet_nil ?_
    rintro w' ⟨gg, rfl⟩
    have HBg := Lib.hid (HB.out.trans (gg.below.mono HB.out.size))
    have F1g := Lib.hid (stay gg.below F1.out)
    clear p0 r1 KB
    generalize gg.on = wg at *
    have so2 := store_oldW (m := 0) F1g.out
    go_wp2_with (first
      | (refine wpList_store_row rfl 44 _ _ rfl (w.heap.size + 1) _ (wa 0) rfl rfl F1g.out Tryz.infoWa (by simp [wa_size]) wa_one ?_))
    refine bodyPost_ret (v := wd 0) (results_cell_row rfl _ _ _ 44 (wa 0) (0, 0) _ rfl (blk_row F1g.out) Tryz.underlying44 rfl Tryz.infoWa) rfl ⟨by rw [HF.out], below_setRow HBg.out (by omega) _⟩
  · rw [hf] at KB
    obtain ⟨hlt, hsv⟩ := slot_found HRs.out hf
    rw [HI.out] at hlt hsv
    have HF := Lib.hid hsv
    have HLt := Lib.hid hlt
    clear hf hsv
    obtain ⟨s, hs1⟩ : ∃ s, sat so i = s := ⟨_, rfl⟩
    have hsg : so[i]? = some s := by rw [← hs1]; exact sat_get hlt
    have HSM := Lib.hid hs1
    obtain ⟨b', off, rfl, hi⟩ := HQC.out (by omega)
    have HRg := Lib.hid (hi i s hsg)
    clear hs1 hsg hi
    generalize hN : so.length = n at *
    have HN := Lib.hid hN
    clear hN
    refine region_ext (by kernel_rfl) (by kernel_rfl) ?_
    repeat (first
      | (go_big_quiet_want; refine quiet_load_mid 44 _ rfl w.heap.size 0 (wa k).toList rfl (fun w2 hw2 => by obtain ⟨g1, rfl⟩ := hw2; exact r1 g1) Tryz.underlying44 rfl (infoW4 _) ?_; simp only [Act.put, List.setIfInBounds_toArray, List.set_cons_succ, List.set_cons_zero, Array.toArray_toList]; go_big_quiet_on)
      | go_big_quiet_step (first | (go_at_call 105; with_reducible exact calls_ext (KB.out _))))
    refine wpQuiet_nil ?_
    rintro w' ⟨gg, rfl⟩
    have HBg := Lib.hid (HB.out.trans (gg.below.mono HB.out.size))
    have F1g := Lib.hid (stay gg.below F1.out)
    have d0 := P0.out gg
    have r2 := (slotcells ((HRg.out.sub (hp_below HBg.out)).at)).2
    clear p0 r1 KB
    generalize gg.on = wg at *
    have so2 := store_oldW (m := s.2) F1g.out
    go_wp2_with (first
      | (refine wpList_load_mid rfl 44 _ rfl b' (off + i * 8 + 4) rfl (wa s.2).toList _ r2 Tryz.underlying44 rfl (infoW4 _) ?_; simp only [Array.toArray_toList])
      | (refine wpList_store_row rfl 44 _ _ rfl (w.heap.size + 1) _ (wa s.2) rfl rfl F1g.out Tryz.infoWa (by simp [wa_size]) wa_one ?_))
    refine bodyPost_ret (v := wd s.2) (results_cell_row rfl _ _ _ 44 (wa s.2) (0, 0) _ rfl (blk_row F1g.out) Tryz.underlying44 rfl Tryz.infoWa) rfl ⟨by rw [HF.out, HSM.out], below_setRow HBg.out (by omega) _⟩
theorem zeroWd (w : World) : (zeroValue 44).run Tryz.prog w = .ok (wd 0) w := Tryz.zeroValue44 w
theorem ones_wa (n : Nat) : (wa n).all (·.oneCell') = true := wa_one
set_option maxHeartbeats 4000000 in
theorem load_walk {p : Nat} {so : List (Nat × Nat)} {g : Nat → Option Nat} {n m : Nat} (k : Nat) (w : World) (h : StoAt w p so g n m) (hk : k < M) :
    Calls Tryz.prog 71 #[.pointer (some ⟨p, 0, none⟩), wd k] w fun e w' => e = .returned (wd (stoV so g k)) ∧ Below w.heap.size w w' := by
  have hw := wa_size
  have e0 := z4w
  obtain ⟨qa, qc, hp, -⟩ := h.at'
  obtain ⟨W, hW, f0, f1, bW, sW⟩ := wboxes w k
  have HS := Lib.hid (h.below bW)
  have F0 := Lib.hid f0
  have F1 := Lib.hid f1
  have HB := Lib.hid bW
  have hpW := stay bW hp
  have p1' : W.cell? ⟨p, 1, none⟩ = some (.map (some m)) := by simp [World.cell?, hpW]
  have LK : ∀ w', Below W.heap.size W w' → (Instr.lookup 162 (.map (some m)) (.agg (wa k)) true).run Tryz.prog w' = .ok (.tuple #[((g k).map wd).getD (wd 0), .bool (g k).isSome]) w' := fun w' hb => by
    have := (HS.out.below hb).map.look_ok Tryz.underlying162 (zeroWd w') hk
    rw [this]
    cases g k <;> rfl
  have HLK := Lib.hid LK
  have HK := Lib.hid hk
  have HP1 := Lib.hid p1'
  have HSV := Lib.hid (show stoV so g k = (g k).getD (slotV so k) from rfl)
  clear h hk hp hpW p1' f0 f1 bW LK
  generalize stoV so g k = sv at *
  have hv : ((g k).map wd).getD (wd 0) = wd ((g k).getD 0) := by cases g k <;> rfl
  rw [hv] at HLK
  clear hv
  obtain ⟨v, hv⟩ : ∃ v, (g k).getD 0 = v := ⟨_, rfl⟩
  rw [hv] at HLK
  have HV := Lib.hid hv
  clear hv
  unfold wd at HLK
  unfold wd
  go_enter Tryz.func71, Tryz.ntmps71
  go_upto_region 1 with fail
  clear hW
  refine region_mkA (aQ := ?aQ) 9 ⟨9, 10, 44, 5, 14, #[.int .u64 0, .int .u64 0, .int .u64 0, .int .u64 0], wa v⟩ (by kernel_rfl) (by kernel_rfl) (by kernel_rfl) (fun w1 => ?hq) ?hok ?hh
  case hq =>
    have hbx : Below W.heap.size W w1.on := ((Below.refl W.heap.size W).drew).trans w1.below
    have c1 := fun g => ext2_cell w1 g HP1.out
    have r1 : ∀ g : Ext w1.on, g.on.rangeAt w.heap.size 0 (wa k).toList := fun g => (rng_block (cs := (wa k).toList) (by simpa using stay (hbx.trans (g.below.mono hbx.size)) F0.out)).at
    have LK := fun g : Ext w1.on => HLK.out g.on (hbx.trans (g.below.mono hbx.size))
    simp only [List.take_succ_cons, List.take_zero, List.drop_succ_cons, List.drop_zero, List.cons_append, List.nil_append]
    repeat (first
      | (go_big_quiet_want; refine quiet_load_mid 44 _ rfl w.heap.size 0 (wa k).toList rfl (fun w2 hw2 => by obtain ⟨g1, rfl⟩ := hw2; exact r1 g1) Tryz.underlying44 rfl (infoW4 _) ?_; simp only [Act.put, List.setIfInBounds_toArray, List.set_cons_succ, List.set_cons_zero, Array.toArray_toList]; go_big_quiet_on)
      | go_big_quiet_step (fail))
    refine wpQuiet_nil ?_
    rfl
  case hok => exact ⟨Tryz.zeroValue44, Tryz.infoW, rfl, by simp [wa, Value.oneCell'], by simp, rfl⟩
  case hh =>
    intro b5 w5 b1 lb5 f5
    simp only [Act.put, List.setIfInBounds_toArray, List.set_cons_succ, List.set_cons_zero]
    have HB5 := Lib.hid (HB.out.trans (b1.mono HB.out.size))
    have HS5 := Lib.hid (HS.out.below b1)
    have F05 := Lib.hid (stay b1 F0.out)
    have F15 := Lib.hid (stay b1 F1.out)
    have F5 := Lib.hid f5
    have lb5' : w.heap.size + 1 ≠ b5 := by omega
    clear f5 b1 HLK F0 F1
    cases hg : g k with
    | some y =>
      have hy : v = y := by rw [← HV.out, hg]; rfl
      have hsv : sv = y := by rw [HSV.out, hg]; rfl
      simp only [Option.isSome_some]
      subst hy
      subst hsv
      have r5 := (rng_block (cs := (wa sv).toList) (by simpa using F5.out)).at
      have so2 := store_oldW (m := sv) F15.out
      go_wp2_with (first
        | (refine wpList_load_mid rfl 44 _ rfl b5 0 rfl (wa sv).toList _ r5 Tryz.underlying44 rfl (infoW4 _) ?_; simp only [Array.toArray_toList])
        | (refine wpList_store_row rfl 44 _ _ rfl (w.heap.size + 1) _ (wa sv) rfl rfl F15.out Tryz.infoWa (by simp [wa_size]) wa_one ?_))
      refine bodyPost_ret (v := wd sv) (results_cell_row rfl _ _ _ 44 (wa sv) (0, 0) _ rfl (blk_row F15.out) Tryz.underlying44 rfl Tryz.infoWa) rfl ⟨rfl, below_setRow HB5.out (by omega) _⟩
    | none =>
      have hsv : sv = slotV so k := by rw [HSV.out, hg]; rfl
      simp only [Option.isSome_none]
      have r0 := (rng_block (cs := (wa k).toList) (by simpa using F05.out)).at
      have KF := Lib.hid (first_walk k w5 HS5.out HK.out)
      rw [← hsv] at KF
      clear hsv
      unfold wd at KF
      go_wp2_with (first
        | (refine wpList_load_mid rfl 44 _ rfl w.heap.size 0 rfl (wa k).toList _ r0 Tryz.underlying44 rfl (infoW4 _) ?_; simp only [Array.toArray_toList])
        | (go_at_call 78; refine KF.out.mono ?_; rintro e w6 ⟨rfl, b6⟩; replace HB5 := Lib.hid (HB5.out.trans (b6.mono HB5.out.size)); have f1 := stay b6 F15.out; replace F15 := Lib.hid f1; have so2 := store_oldW (m := sv) f1; clear f1 b6)
        | (refine wpList_store_row rfl 44 _ _ rfl (w.heap.size + 1) _ (wa sv) rfl rfl F15.out Tryz.infoWa (by simp [wa_size]) wa_one ?_))
      refine bodyPost_ret (v := wd sv) (results_cell_row rfl _ _ _ 44 (wa sv) (0, 0) _ rfl (blk_row F15.out) Tryz.underlying44 rfl Tryz.infoWa) rfl ⟨rfl, below_setRow HB5.out (by omega) _⟩
end Go.Proofs.YtnjeoeekidnffaaGreat
