/- StorePlays, its parts: a slot's key against a key; the search among the slots of an account. -/
import Derived.Test.YtpkoiifidlnbeaaGb
import Derived.Test.YtpkoiifidlnbeaaG9
namespace Go.Proofs.Ytpkoiifidlnbeaa
open Go.RowKit SmWord
set_option maxRecDepth 100000

/-- What is stored at a key; 0. -/
def slotV (so : List (Nat × Nat)) (key : Nat) : Nat := ((so.find? fun s => s.1 == key).map (·.2)).getD 0
theorem slotV_at {so : List (Nat × Nat)} {k key : Nat} {s : Nat × Nat} (ho : ∀ s ∈ so.take k, s.1 ≠ key) (hs : so[k]? = some s) (he : s.1 = key) : slotV so key = s.2 := by
  have hl : so = so.take k ++ s :: so.drop (k + 1) := by
    have h1 := List.take_append_drop k so
    have hk : k < so.length := (List.getElem?_eq_some_iff.1 hs).1
    have h2 : so.drop k = s :: so.drop (k + 1) := by
      rw [List.drop_eq_getElem_cons hk]
      congr 1
      exact (List.getElem?_eq_some_iff.1 hs).2
    rw [h2] at h1
    exact h1.symm
  rw [hl]
  unfold slotV
  rw [List.find?_append]
  have : (so.take k).find? (fun s => s.1 == key) = none := by
    rw [List.find?_eq_none]
    intro y hy
    simp [ho y hy]
  rw [this]
  simp [he]
theorem slotV_none {so : List (Nat × Nat)} {key : Nat} (ho : ∀ s ∈ so, s.1 ≠ key) : slotV so key = 0 := by
  unfold slotV
  have : so.find? (fun s => s.1 == key) = none := by
    rw [List.find?_eq_none]
    intro y hy
    simp [ho y hy]
  rw [this]
  rfl
/-- How many keys stand ahead of a key; is it there? -/
def lowK : List (Nat × Nat) → Nat → Nat
  | [], _ => 0
  | s :: so, key => if s.1 < key then lowK so key + 1 else 0
def hasK (so : List (Nat × Nat)) (key : Nat) : Bool := decide (lowK so key < so.length) && decide ((sat so (lowK so key)).1 = key)
theorem sat_cons (s : Nat × Nat) (so : List (Nat × Nat)) (i : Nat) : sat (s :: so) (i + 1) = sat so i := by simp [sat]
theorem sat_zero (s : Nat × Nat) (so : List (Nat × Nat)) : sat (s :: so) 0 = s := by simp [sat]
theorem lowK_eq {key : Nat} : ∀ {so : List (Nat × Nat)} {i : Nat}, i ≤ so.length → (∀ j, j < i → (sat so j).1 < key) → (∀ j, i ≤ j → j < so.length → key ≤ (sat so j).1) → lowK so key = i
  | [], i, h, _, _ => by simp at h; simp [lowK, h]
  | s :: so, 0, _, _, h2 => by
    have := h2 0 (Nat.le_refl _) (by simp)
    rw [sat_zero] at this
    unfold lowK
    rw [if_neg (by omega)]
  | s :: so, i + 1, h, h1, h2 => by
    have h0 := h1 0 (by omega)
    rw [sat_zero] at h0
    unfold lowK
    rw [if_pos h0, lowK_eq (by simpa using h) (fun j hj => by have := h1 (j + 1) (by omega); rwa [sat_cons] at this) (fun j a b => by have := h2 (j + 1) (by omega) (by simpa using b); rwa [sat_cons] at this)]
theorem right_rise {so : List (Nat × Nat)} (h : rightS so = true) : ∀ d i, i + d + 1 < so.length → (sat so i).1 < (sat so (i + d + 1)).1
  | 0, i, hi => by
    rcases ((rightS_iff so).1 h (i + 1) hi).2 with h | h
    · omega
    · simpa using h
  | d + 1, i, hi => by
    have h1 := right_rise h d i (by omega)
    rcases ((rightS_iff so).1 h (i + d + 1 + 1) (by omega)).2 with h2 | h2
    · omega
    · rw [Nat.add_sub_cancel] at h2
      exact Nat.lt_trans h1 h2
theorem right_srt {so : List (Nat × Nat)} (h : rightS so = true) (i j : Nat) (hij : i < j) (hj : j < so.length) : (sat so i).1 < (sat so j).1 := by
  have := right_rise h (j - i - 1) i (by omega)
  rwa [show i + (j - i - 1) + 1 = j by omega] at this
theorem take_sat {so : List (Nat × Nat)} {k : Nat} {s : Nat × Nat} (h : s ∈ so.take k) : ∃ j, j < k ∧ j < so.length ∧ sat so j = s := by
  obtain ⟨j, hj, e⟩ := List.getElem_of_mem h
  rw [List.getElem_take] at e
  rw [List.length_take] at hj
  exact ⟨j, by omega, by omega, by simp [sat, ← e, show j < so.length by omega]⟩
theorem slot_hit {so : List (Nat × Nat)} {key i : Nat} (hi : i < so.length) (h1 : ∀ j, j < i → (sat so j).1 < key) (he : (sat so i).1 = key) : slotV so key = (sat so i).2 :=
  slotV_at (k := i) (fun s hs => by
    obtain ⟨j, hj, _, rfl⟩ := take_sat hs
    have := h1 j hj
    omega) (sat_get hi) he
theorem slot_miss {so : List (Nat × Nat)} {key i : Nat} (hs : rightS so = true) (h1 : ∀ j, j < i → (sat so j).1 < key) (h2 : ∀ j, i ≤ j → j < so.length → key ≤ (sat so j).1) (hn : ¬ (i < so.length ∧ (sat so i).1 = key)) : slotV so key = 0 :=
  slotV_none (fun s hm e => by
    obtain ⟨j, hj, e'⟩ := List.getElem_of_mem hm
    have e2 : sat so j = s := by simp [sat, ← e', hj]
    by_cases hji : j < i
    · have := h1 j hji
      rw [e2] at this
      omega
    · by_cases hij : j = i
      · subst hij
        exact hn ⟨hj, by rw [e2]; exact e⟩
      · have a := h2 i (Nat.le_refl _) (by omega)
        have b := right_srt hs i j (by omega) hj
        rw [e2] at b
        omega)
set_option maxHeartbeats 1000000 in
theorem ckey_walk (s : Nat × Nat) (key : Nat) (w : World) : Calls Try.prog 37 #[.agg (scs s).toArray, wd key] w fun e w' => e = .returned (.int .i64 (cmpN (s.1 % M) (key % M))) ∧ Below w.heap.size w w' := by
  unfold wd
  have hs : (scs s).toArray.size = 8 := by simp [scs_len]
  have hw := wa_size
  obtain ⟨W, hW⟩ : ∃ W, w.alloc (.cells (scs s).toArray 82) = W := ⟨_, rfl⟩
  have f0 : W.heap[w.heap.size]? = some (.cells (scs s).toArray 82) := hW ▸ heap_alloc_new _ _
  have bW : Below w.heap.size w W := hW ▸ (Below.refl _ _).alloc (Nat.le_refl _) _
  obtain ⟨V, hV⟩ : ∃ V, W.alloc (.cells (wa key) 27) = V := ⟨_, rfl⟩
  have f1 : V.heap[W.heap.size]? = some (.cells (wa key) 27) := hV ▸ heap_alloc_new _ _
  have bV : Below W.heap.size W V := hV ▸ (Below.refl _ _).alloc (Nat.le_refl _) _
  have l0 := (slotcells (rng_block (stay bV f0)).at).1
  have l1 : V.rangeAt W.heap.size 0 (wa key).toList := (rng_block (cs := (wa key).toList) (by simpa using f1)).at
  have HB := Lib.hid (bW.trans (bV.mono bW.size))
  have KC := Lib.hid (compare_wd s.1 key)
  unfold wd at KC
  clear f0 f1 bW bV
  generalize cmpN (s.1 % M) (key % M) = r at *
  go_enter Try.func37, Try.ntmps37
  go_upto_region 1 with fail
  clear hW hV
  go_wp2_with (first
    | (refine wpList_load_mid rfl 27 _ rfl w.heap.size 0 rfl (wa s.1).toList _ l0 Try.underlying27 rfl (infoW4 _) ?_; simp only [Array.toArray_toList])
    | (refine wpList_load_mid rfl 27 _ rfl W.heap.size 0 rfl (wa key).toList _ l1 Try.underlying27 rfl (infoW4 _) ?_; simp only [Array.toArray_toList])
    | (go_at_call 38; refine (KC.out _).mono ?_; rintro e w1 ⟨rfl, b1⟩; replace HB := Lib.hid (HB.out.trans (b1.mono HB.out.size)); clear b1))
  go_ret
  exact ⟨rfl, HB.out⟩
/-- How many keys stand ahead. -/
theorem wrap_mid {a b : Nat} (h : a + b ≤ 4000000) : (IntKind.u64.wrap ((a : Int) + (b : Int))) = ((a + b : Nat) : Int) := by
  rw [show (a : Int) + (b : Int) = ((a + b : Nat) : Int) from rfl]
  unfold IntKind.wrap
  simp [IntKind.bits, IntKind.signed]
  omega
set_option maxHeartbeats 4000000 in
theorem bsf_walk (qa : Option Addr) (c key : Nat) (so : List (Nat × Nat)) (w : World) (hl : so.length ≤ 1000000) (hcells : 0 < so.length → ∃ b off, qa = some ⟨b, off, none⟩ ∧ ∀ i s, so[i]? = some s → rng (hp w) b (off + i * 8) (scs s))
    (hM : ∀ s ∈ so, s.1 < M ∧ s.2 < M) (hk : key < M) (hs : ∀ i j, i < j → j < so.length → (sat so i).1 < (sat so j).1) :
    Calls Try.prog 36 #[.slice qa so.length c, wd key, .func (.func 37) #[] #[]] w fun e w' => ∃ i : Nat, i ≤ so.length ∧ e = .returned (.tuple #[.int .i64 (i : Int), .bool (decide (i < so.length) && decide ((sat so i).1 = key))]) ∧
      (∀ j, j < i → (sat so j).1 < key) ∧ (∀ j, i ≤ j → j < so.length → key ≤ (sat so j).1) ∧ Below w.heap.size w w' := by
  unfold wd
  have hw := wa_size
  have eg : ∀ args w, (callFunc 37 args).run Try.prog w = .ok (.enter 37 args) w := enters_of Try.func37 (by kernel_rfl) rfl
  obtain ⟨W, hW⟩ : ∃ W, w.alloc (.cells (wa key) 27) = W := ⟨_, rfl⟩
  have f0 : W.heap[w.heap.size]? = some (.cells (wa key) 27) := hW ▸ heap_alloc_new _ _
  have bW : Below w.heap.size w W := hW ▸ (Below.refl _ _).alloc (Nat.le_refl _) _
  have HB := Lib.hid bW
  have F0 := Lib.hid f0
  have HM := Lib.hid hM
  have HS := Lib.hid hs
  have HK := Lib.hid hk
  have HC : Hid (0 < so.length → ∃ b off, qa = some ⟨b, off, none⟩ ∧ ∀ i s, so[i]? = some s → rng (hp W) b (off + i * 8) (scs s)) := Lib.hid fun hn => by
    obtain ⟨b, off, e, hi⟩ := hcells hn
    exact ⟨b, off, e, fun i s hs => (hi i s hs).sub (hp_below bW)⟩
  clear hcells f0 bW hM hs hk
  generalize hN : so.length = n at *
  have HN := Lib.hid hN
  clear hN
  go_enter Try.func36, Try.ntmps36
  go_upto_region 1 with fail
  clear hW
  go_wp2_with fail
  go_loopw [9, 10] (fun u v wr => ∃ a b : Nat, u = .int .i64 a ∧ v = .int .i64 b ∧ a ≤ b ∧ b ≤ n ∧ Hid (∀ j, j < a → (sat so j).1 < key) ∧ Hid (∀ j, b ≤ j → j < n → key ≤ (sat so j).1) ∧ Hid (Below W.heap.size W wr)) (fun u v _ => (intOf v).toNat - (intOf u).toNat)
  case atStart => exact ⟨0, n, rfl, rfl, Nat.zero_le _, Nat.le_refl _, Lib.hid (fun j hj => absurd hj (by omega)), Lib.hid (fun j h1 h2 => absurd h2 (by omega)), Lib.hid (Below.refl _ _)⟩
  case round =>
    obtain ⟨a, b, rfl, rfl, hab, hbn, HA, HZ, HW⟩ := hrel
    by_cases hlt : a < b
    · obtain ⟨g, off, rfl, hi⟩ := HC.out (by omega)
      have hwr := wrap_mid (a := a) (b := b) (by omega)
      clear hwr
      go_upto_region 5 with fail
      obtain ⟨m, hm⟩ : ∃ m : Nat, ((a : Int) + (b : Int)) / 2 = (m : Int) := ⟨(a + b) / 2, by omega⟩
      rw [hm]
      have hma : a ≤ m := by omega
      have hmb : m < b := by omega
      have hmn : m < n := by omega
      obtain ⟨s, hs1⟩ : ∃ s, sat so m = s := ⟨_, rfl⟩
      have hsg : so[m]? = some s := by rw [← hs1]; exact sat_get (by rw [HN.out]; exact hmn)
      have HSM := Lib.hid hs1
      have hMs := HM.out s (List.mem_of_getElem? hsg)
      have r0 := fun g1 : Ext wr => ((hi m s hsg).sub (hp_below (HW.out.trans (g1.below.mono HW.out.size)))).at
      have r1 : ∀ g1 : Ext wr, g1.on.rangeAt w.heap.size 0 (wa key).toList := fun g1 => (rng_block (cs := (wa key).toList) (by simpa using g1.block (stay HW.out F0.out))).at
      have KC := Lib.hid (ckey_walk s key)
      rw [Nat.mod_eq_of_lt hMs.1, Nat.mod_eq_of_lt HK.out] at KC
      unfold wd at KC
      have HMs := Lib.hid hMs
      have HHi := Lib.hid hi
      clear hs1 hsg hMs hi
      have hcm : (cmpN s.1 key < 0 ∧ s.1 < key) ∨ (¬ cmpN s.1 key < 0 ∧ key ≤ s.1) := by
        by_cases h : s.1 < key
        · exact .inl ⟨(cmpN_lt _ _).2 h, h⟩
        · exact .inr ⟨fun h' => h ((cmpN_lt _ _).1 h'), by omega⟩
      generalize cmpN s.1 key = r at *
      rcases hcm with ⟨hr, hsk⟩ | ⟨hr, hsk⟩
      · have HSK := Lib.hid hsk
        clear hsk
        refine region_ext (by kernel_rfl) (by kernel_rfl) ?_
        repeat (first
          | (go_big_quiet_want; refine quiet_load_mid 82 _ rfl g (off + m * 8) (scs s) rfl (fun w2 hw2 => by obtain ⟨g1, rfl⟩ := hw2; exact r0 g1) Try.underlying82 rfl (infoScs _) ?_; simp only [Act.put, List.setIfInBounds_toArray, List.set_cons_succ, List.set_cons_zero]; go_big_quiet_on)
          | (go_big_quiet_want; refine quiet_load_mid 27 _ rfl w.heap.size 0 (wa key).toList rfl (fun w2 hw2 => by obtain ⟨g1, rfl⟩ := hw2; exact r1 g1) Try.underlying27 rfl (infoW4 _) ?_; simp only [Act.put, List.setIfInBounds_toArray, List.set_cons_succ, List.set_cons_zero, Array.toArray_toList]; go_big_quiet_on)
          | go_big_quiet_step (first | (go_at_fn 37; with_reducible exact calls_ext (KC.out _))))
        refine wpQuiet_nil ?_
        rintro w' ⟨gg, rfl⟩
        have HWg := Lib.hid (HW.out.trans (gg.below.mono HW.out.size))
        clear r0 r1 KC
        generalize gg.on = wg at *
        go_wp2_with fail
        exact ⟨⟨m + 1, b, by go_num, rfl, by omega, hbn, Lib.hid (fun j hj => by
          by_cases e : j = m
          · rw [e, HSM.out]; exact HSK.out
          · have := HS.out j m (by omega) hmn
            rw [HSM.out] at this
            exact Nat.lt_trans this HSK.out), HZ, HWg⟩, by simp [intOf]; omega⟩
      · have HSK := Lib.hid hsk
        clear hsk
        refine region_ext (by kernel_rfl) (by kernel_rfl) ?_
        repeat (first
          | (go_big_quiet_want; refine quiet_load_mid 82 _ rfl g (off + m * 8) (scs s) rfl (fun w2 hw2 => by obtain ⟨g1, rfl⟩ := hw2; exact r0 g1) Try.underlying82 rfl (infoScs _) ?_; simp only [Act.put, List.setIfInBounds_toArray, List.set_cons_succ, List.set_cons_zero]; go_big_quiet_on)
          | (go_big_quiet_want; refine quiet_load_mid 27 _ rfl w.heap.size 0 (wa key).toList rfl (fun w2 hw2 => by obtain ⟨g1, rfl⟩ := hw2; exact r1 g1) Try.underlying27 rfl (infoW4 _) ?_; simp only [Act.put, List.setIfInBounds_toArray, List.set_cons_succ, List.set_cons_zero, Array.toArray_toList]; go_big_quiet_on)
          | go_big_quiet_step (first | (go_at_fn 37; with_reducible exact calls_ext (KC.out _))))
        refine wpQuiet_nil ?_
        rintro w' ⟨gg, rfl⟩
        have HWg := Lib.hid (HW.out.trans (gg.below.mono HW.out.size))
        clear r0 r1 KC
        generalize gg.on = wg at *
        go_wp2_with fail
        exact ⟨⟨a, m, rfl, rfl, hma, by omega, HA, Lib.hid (fun j h1 h2 => by
          by_cases e : j = m
          · rw [e, HSM.out]; exact HSK.out
          · have := HS.out m j (by omega) h2
            rw [HSM.out] at this
            exact Nat.le_trans HSK.out (Nat.le_of_lt this)), HWg⟩, by simp [intOf]; omega⟩
    · obtain rfl : a = b := by omega
      by_cases han : a < n
      · obtain ⟨g, off, rfl, hi⟩ := HC.out (by omega)
        obtain ⟨s, hs1⟩ : ∃ s, sat so a = s := ⟨_, rfl⟩
        have hsg : so[a]? = some s := by rw [← hs1]; exact sat_get (by rw [HN.out]; exact han)
        have HSM := Lib.hid hs1
        have hMs := HM.out s (List.mem_of_getElem? hsg)
        have r0 := fun g1 : Ext wr => ((hi a s hsg).sub (hp_below (HW.out.trans (g1.below.mono HW.out.size)))).at
        have r1 : ∀ g1 : Ext wr, g1.on.rangeAt w.heap.size 0 (wa key).toList := fun g1 => (rng_block (cs := (wa key).toList) (by simpa using g1.block (stay HW.out F0.out))).at
        have KC := Lib.hid (ckey_walk s key)
        rw [Nat.mod_eq_of_lt hMs.1, Nat.mod_eq_of_lt HK.out] at KC
        unfold wd at KC
        have HHi := Lib.hid hi
        clear hs1 hsg hMs hi
        have hcm : (cmpN s.1 key == 0) = decide (s.1 = key) := by
          unfold cmpN
          by_cases h1 : s.1 < key
          · simp [h1]; omega
          · by_cases h2 : key < s.1
            · simp [h1, h2]; omega
            · have : s.1 = key := by omega
              simp [this]
        have HCM := Lib.hid hcm
        clear hcm
        generalize cmpN s.1 key = r at *
        go_upto_region 8 with fail
        refine region_ext (by kernel_rfl) (by kernel_rfl) ?_
        repeat (first
          | (go_big_quiet_want; refine quiet_load_mid 82 _ rfl g (off + a * 8) (scs s) rfl (fun w2 hw2 => by obtain ⟨g1, rfl⟩ := hw2; exact r0 g1) Try.underlying82 rfl (infoScs _) ?_; simp only [Act.put, List.setIfInBounds_toArray, List.set_cons_succ, List.set_cons_zero]; go_big_quiet_on)
          | (go_big_quiet_want; refine quiet_load_mid 27 _ rfl w.heap.size 0 (wa key).toList rfl (fun w2 hw2 => by obtain ⟨g1, rfl⟩ := hw2; exact r1 g1) Try.underlying27 rfl (infoW4 _) ?_; simp only [Act.put, List.setIfInBounds_toArray, List.set_cons_succ, List.set_cons_zero, Array.toArray_toList]; go_big_quiet_on)
          | go_big_quiet_step (first | (go_at_fn 37; with_reducible exact calls_ext (KC.out _))))
        refine wpQuiet_nil ?_
        rintro w' ⟨gg, rfl⟩
        have HWg := Lib.hid (HW.out.trans (gg.below.mono HW.out.size))
        clear r0 r1 KC
        generalize gg.on = wg at *
        go_wp2_with fail
        go_ret2
        refine ⟨a, by omega, ?_, HA.out, HZ.out, HB.out.trans (HWg.out.mono HB.out.size)⟩
        show Ending.returned (Value.tuple #[Value.int IntKind.i64 (a : Int), Value.bool (r == 0)]) = _
        rw [HCM.out, HSM.out, decide_eq_true han]
        rfl
      · obtain rfl : a = n := by omega
        go_upto_region 8 with fail
        refine region_ext (by kernel_rfl) (by kernel_rfl) ?_
        repeat (go_big_quiet_step (fail))
        refine wpQuiet_nil ?_
        rintro w' ⟨gg, rfl⟩
        have HWg := Lib.hid (HW.out.trans (gg.below.mono HW.out.size))
        generalize gg.on = wg at *
        go_wp2_with fail
        go_ret2
        refine ⟨a, by omega, ?_, HA.out, HZ.out, HB.out.trans (HWg.out.mono HB.out.size)⟩
        show Ending.returned (Value.tuple #[Value.int IntKind.i64 (a : Int), Value.bool false]) = _
        rw [decide_eq_false (Nat.lt_irrefl a)]
        rfl
/-- The same, told by plain words. -/
theorem bsf_low (qa : Option Addr) (c key : Nat) (so : List (Nat × Nat)) (w : World) (hl : so.length ≤ 1000000) (hcells : 0 < so.length → ∃ b off, qa = some ⟨b, off, none⟩ ∧ ∀ i s, so[i]? = some s → rng (hp w) b (off + i * 8) (scs s))
    (hM : ∀ s ∈ so, s.1 < M ∧ s.2 < M) (hk : key < M) (hs : rightS so = true) :
    Calls Try.prog 36 #[.slice qa so.length c, wd key, .func (.func 37) #[] #[]] w fun e w' => e = .returned (.tuple #[.int .i64 (lowK so key : Int), .bool (hasK so key)]) ∧ Below w.heap.size w w' :=
  (bsf_walk qa c key so w hl hcells hM hk (right_srt hs)).mono fun e w' ⟨i, hi, he, h1, h2, hb⟩ => by
    have := lowK_eq hi h1 h2
    unfold hasK
    rw [this]
    exact ⟨he, hb⟩
theorem lowK_le (key : Nat) : ∀ so : List (Nat × Nat), lowK so key ≤ so.length
  | [] => Nat.le_refl _
  | s :: so => by
    unfold lowK
    split
    · have := lowK_le key so; simp; omega
    · exact Nat.zero_le _
theorem low_spec {so : List (Nat × Nat)} (hs : rightS so = true) (key : Nat) : (∀ j, j < lowK so key → (sat so j).1 < key) ∧ ∀ j, lowK so key ≤ j → j < so.length → key ≤ (sat so j).1 := by
  induction so with
  | nil => exact ⟨fun j hj => by simp [lowK] at hj, fun j _ hj => by simp at hj⟩
  | cons s so ih =>
    have hs' : rightS so = true := by
      cases so with
      | nil => rfl
      | cons t so => simp only [rightS, Bool.and_eq_true] at hs; exact hs.2
    obtain ⟨i1, i2⟩ := ih hs'
    unfold lowK
    by_cases h : s.1 < key
    · rw [if_pos h]
      refine ⟨fun j hj => ?_, fun j h1 h2 => ?_⟩
      · cases j with
        | zero => rw [sat_zero]; exact h
        | succ j => rw [sat_cons]; exact i1 j (by omega)
      · cases j with
        | zero => omega
        | succ j => rw [sat_cons]; exact i2 j (by omega) (by simpa using h2)
    · rw [if_neg h]
      refine ⟨fun j hj => absurd hj (by omega), fun j _ h2 => ?_⟩
      cases j with
      | zero => rw [sat_zero]; omega
      | succ j =>
        have := right_srt hs 0 (j + 1) (by omega) h2
        rw [sat_zero] at this
        omega
theorem slot_found {so : List (Nat × Nat)} (hs : rightS so = true) {key : Nat} (h : hasK so key = true) : lowK so key < so.length ∧ slotV so key = (sat so (lowK so key)).2 := by
  unfold hasK at h
  simp only [Bool.and_eq_true, decide_eq_true_eq] at h
  exact ⟨h.1, slot_hit h.1 (low_spec hs key).1 h.2⟩
theorem slot_lost {so : List (Nat × Nat)} (hs : rightS so = true) {key : Nat} (h : hasK so key = false) : slotV so key = 0 := by
  refine slot_miss hs (low_spec hs key).1 (low_spec hs key).2 fun h' => ?_
  unfold hasK at h
  rw [decide_eq_true h'.1, decide_eq_true h'.2] at h
  cases h
end Go.Proofs.Ytpkoiifidlnbeaa
/- StorePlays, its parts: what a version's account has stored: Slot. -/
namespace Go.Proofs.Ytpkoiifidlnbeaa
open Go.RowKit SmWord
set_option maxRecDepth 100000

set_option maxHeartbeats 4000000 in
theorem slot_some (p : Option Addr) (v : Int) (A k b : Nat) (xb : AV) (w : World) (hk : k < M) (hb : w.heap[b]? = some (.cells (acs xb).toArray 46)) (hx : AccZ (hp w) xb) (hr : rightA xb.a = true)
    (HL : Hid (∀ w1, Below w.heap.size w w1 → Calls Try.prog 32 #[.pointer p, .int .i64 v, .agg (aN A)] w1 fun e w' => e = .returned (ptrV (some b)) ∧ Below w1.heap.size w1 w')) :
    Calls Try.prog 17 #[.pointer p, .int .i64 v, .agg (aN A), wd k] w fun e w' => e = .returned (wd (slotV xb.a.so k)) ∧ Below w.heap.size w w' := by
  have hs := aN_size A
  have hw := wa_size
  have e0 := z4w
  obtain ⟨W, hW, f0, f1, f2, bW, sW⟩ := sboxes w A k
  have r0 := adblk f0
  have HB := Lib.hid bW
  have F1 := Lib.hid f1
  have F2 := Lib.hid f2
  have HXb := Lib.hid hb
  have HX := Lib.hid hx
  have HR := Lib.hid hr
  have HK := Lib.hid hk
  clear f0 f1 f2 bW hb hx hr hk
  unfold wd
  go_enter Try.func17, Try.ntmps17
  go_upto_region 1 with fail
  clear hW
  unfold ptrV at HL
  go_upto_region 4 with (first
    | (refine wpList_load_mid rfl 24 _ rfl w.heap.size 0 rfl (aN A).toList _ r0 Try.underlying24 rfl (infoAd A) ?_; simp only [Array.toArray_toList])
    | (go_at_call 32; refine (HL.out _ HB.out).mono ?_; rintro e w1 ⟨rfl, b1⟩; replace HB := Lib.hid (HB.out.trans (b1.mono HB.out.size)); have f1 := stay b1 F1.out; have f2 := stay b1 F2.out; replace F1 := Lib.hid f1; replace F2 := Lib.hid f2; clear f1 f2 b1))
  obtain ⟨QA, qc, hq1, hqn, hqc, hqA, hqcells⟩ := HX.out.sto.one (fun s _ => scs_len s)
  have hsl := HX.out.sl
  have hMs := HX.out.sM
  have f4 := stay HB.out HXb.out
  have q4 := (boxcells f4).2.2.2.1
  rw [hq1] at q4
  have p0 : ∀ g1 : Ext w1, g1.on.cell? ⟨b, 26, none⟩ = some (.slice QA xb.a.so.length qc) := fun g1 => (g1.below.cell (p := ⟨b, 26, none⟩) (by simpa using World.block_lt_of_cell? w1 _ q4)).trans q4
  have r1 : ∀ g1 : Ext w1, g1.on.rangeAt (w.heap.size + 1) 0 (wa k).toList := fun g1 => (rng_block (cs := (wa k).toList) (by simpa using g1.block F1.out)).at
  have KB := Lib.hid fun g1 : Ext w1 => bsf_low QA qc k xb.a.so g1.on hsl (fun hn => by
    obtain ⟨b', off, e, _, hi⟩ := hqcells hn
    exact ⟨b', off, e, fun i s hs => (hi i s hs).sub (hp_below (HB.out.trans (g1.below.mono HB.out.size)))⟩) hMs HK.out HR.out
  unfold wd at KB
  have HQC := Lib.hid hqcells
  have hlow := lowK_le k xb.a.so
  have HRs : Hid (rightS xb.a.so = true) := Lib.hid HR.out
  have HF4 := Lib.hid f4
  have P0 := Lib.hid p0
  have HMs := Lib.hid hMs
  clear hqcells f4 q4 HXb hMs HX hq1
  generalize hso : xb.a.so = so at *
  have HSo := Lib.hid hso
  clear hso
  obtain ⟨i, hi⟩ : ∃ i, lowK so k = i := ⟨_, rfl⟩
  have HI := Lib.hid hi
  rw [hi] at KB hlow
  clear hi
  cases hf : hasK so k
  · rw [hf] at KB
    have HF := Lib.hid (slot_lost HRs.out hf)
    clear hf
    generalize hN : so.length = n at *
    have HN := Lib.hid hN
    clear hN
    refine region_ext (by kernel_rfl) (by kernel_rfl) ?_
    repeat (first
      | (go_big_quiet_want; refine quiet_load_mid 27 _ rfl (w.heap.size + 1) 0 (wa k).toList rfl (fun w2 hw2 => by obtain ⟨g1, rfl⟩ := hw2; exact r1 g1) Try.underlying27 rfl (infoW4 _) ?_; simp only [Act.put, List.setIfInBounds_toArray, List.set_cons_succ, List.set_cons_zero, Array.toArray_toList]; go_big_quiet_on)
      | go_big_quiet_step (first | (go_at_call 36; with_reducible exact calls_ext (KB.out _))))
    refine wpQuiet_nil ?_
    rintro w' ⟨gg, rfl⟩
    have HBg := Lib.hid (HB.out.trans (gg.below.mono HB.out.size))
    have F2g := Lib.hid (stay gg.below F2.out)
    clear p0 r1 KB
    generalize gg.on = wg at *
    have so2 := store_old (m := 0) F2g.out
    go_wp2_with (first
      | (refine wpList_store_row rfl 27 _ _ rfl (w.heap.size + 2) _ (wa 0) rfl rfl F2g.out Try.infoWa (by simp [wa_size]) wa_one ?_))
    refine bodyPost_ret (v := wd 0) (results_cell_row rfl _ _ _ 27 (wa 0) (0, 0) _ rfl (blk_row F2g.out) Try.underlying27 rfl Try.infoWa) rfl ⟨by rw [HSo.out, HF.out], below_setRow HBg.out (by omega) _⟩
  · rw [hf] at KB
    obtain ⟨hlt, hsv⟩ := slot_found HRs.out hf
    rw [HI.out] at hlt hsv
    have HF := Lib.hid hsv
    have HLt := Lib.hid hlt
    clear hf hsv
    obtain ⟨s, hs1⟩ : ∃ s, sat so i = s := ⟨_, rfl⟩
    have hsg : so[i]? = some s := by rw [← hs1]; exact sat_get hlt
    have HSM := Lib.hid hs1
    obtain ⟨b', off, rfl, _, hi⟩ := HQC.out (by omega)
    have HRg := Lib.hid (hi i s hsg)
    clear hs1 hsg hi
    generalize hN : so.length = n at *
    have HN := Lib.hid hN
    clear hN
    refine region_ext (by kernel_rfl) (by kernel_rfl) ?_
    repeat (first
      | (go_big_quiet_want; refine quiet_load_mid 27 _ rfl (w.heap.size + 1) 0 (wa k).toList rfl (fun w2 hw2 => by obtain ⟨g1, rfl⟩ := hw2; exact r1 g1) Try.underlying27 rfl (infoW4 _) ?_; simp only [Act.put, List.setIfInBounds_toArray, List.set_cons_succ, List.set_cons_zero, Array.toArray_toList]; go_big_quiet_on)
      | go_big_quiet_step (first | (go_at_call 36; with_reducible exact calls_ext (KB.out _))))
    refine wpQuiet_nil ?_
    rintro w' ⟨gg, rfl⟩
    have HBg := Lib.hid (HB.out.trans (gg.below.mono HB.out.size))
    have F2g := Lib.hid (stay gg.below F2.out)
    have d0 := P0.out gg
    have r2 := (slotcells ((HRg.out.sub (hp_below HBg.out)).at)).2
    clear p0 r1 KB
    generalize gg.on = wg at *
    have so2 := store_old (m := s.2) F2g.out
    go_wp2_with (first
      | (refine wpList_load_mid rfl 27 _ rfl b' (off + i * 8 + 4) rfl (wa s.2).toList _ r2 Try.underlying27 rfl (infoW4 _) ?_; simp only [Array.toArray_toList])
      | (refine wpList_store_row rfl 27 _ _ rfl (w.heap.size + 2) _ (wa s.2) rfl rfl F2g.out Try.infoWa (by simp [wa_size]) wa_one ?_))
    refine bodyPost_ret (v := wd s.2) (results_cell_row rfl _ _ _ 27 (wa s.2) (0, 0) _ rfl (blk_row F2g.out) Try.underlying27 rfl Try.infoWa) rfl ⟨by rw [HSo.out, HF.out, HSM.out], below_setRow HBg.out (by omega) _⟩
section
variable {base : Nat} {Z : Hp} {w : World} {sb : Nat} {g : Gh} {L : Nat → List Acc}
theorem sslot_out (h : StoreAt base Z w sb g L) (v : Int) (A k : Nat) (hv : ¬ (0 ≤ v ∧ v < g.n)) : Calls Try.prog 17 #[.pointer (some ⟨sb, 0, none⟩), .int .i64 v, .agg (aN A), wd k] w fun e w' => e = .returned (wd 0) ∧ Below w.heap.size w w' :=
  slot_none _ v A k w (Lib.hid fun _ b1 => last_none _ g.n v A hv (Lib.hid fun _ b2 => has_walk ((h.below b1).below b2) v))
/-- What Slot answers. -/
theorem sslot_walk (h : StoreAt base Z w sb g L) (v A k : Nat) (hv : v < g.n) (hA : A < 2 ^ 160) (hk : k < M) : Calls Try.prog 17 #[.pointer (some ⟨sb, 0, none⟩), .int .i64 (v : Int), .agg (aN A), wd k] w fun e w' => e = .returned (wd (slotV ((lookA (L v) A).getD noneAV.a).so k)) ∧ Below w.heap.size w w' := by
  rw [h.look v A hv hA]
  have HL := fun w1 (b1 : Below w.heap.size w w1) => last_walk (h.below b1) v A hv hA
  cases hn : near g.par (fun v => g.acc v A) v with
  | none =>
    rw [hn] at HL
    exact slot_none _ _ A k w (Lib.hid HL)
  | some b =>
    rw [hn] at HL
    obtain ⟨h1, h2, _, h4⟩ := h.found hv hA hn
    exact slot_some _ _ A k b (g.X b) w hk (h.sub _ _ h1) (h2.sub h.sub) h4 (Lib.hid HL)
end
end Go.Proofs.Ytpkoiifidlnbeaa
/- StorePlays, its parts: the document's Less. -/
namespace Go.Proofs.Ytpkoiifidlnbeaa
open Go.RowKit SmWord
set_option maxRecDepth 100000

set_option maxHeartbeats 1000000 in
theorem less08_walk (A C : Nat) (w : World) :
    Calls Try.prog 41 #[.agg (aN A), .agg (aN C)] w fun e w' => e = .returned (.bool (decide (lx (ab A) (ab C) 20 0 = -1))) ∧ Below w.heap.size w w' := by
  have f0 : ((w.alloc (.cells (aN A) 24)).alloc (.cells (aN C) 24)).heap[w.heap.size]? = some (.cells (aN A) 24) := blk_alloc (heap_alloc_new _ _)
  have f1 : ((w.alloc (.cells (aN A) 24)).alloc (.cells (aN C) 24)).heap[w.heap.size + 1]? = some (.cells (aN C) 24) := heap_alloc2_new _ _ _
  have bW : Below w.heap.size w ((w.alloc (.cells (aN A) 24)).alloc (.cells (aN C) 24)) := ((Below.refl _ _).alloc (Nat.le_refl _) _).alloc (by simp) _
  go_enter Try.func41, Try.ntmps41
  go_wp2_with fail
  generalize ((w.alloc (.cells (aN A) 24)).alloc (.cells (aN C) 24)) = W at *
  go_loopw [5] (fun i wr => ∃ k : Nat, k ≤ 20 ∧ i = .int .i64 k ∧ Hid (lx (ab A) (ab C) 20 0 = lx (ab A) (ab C) (20 - k) k) ∧ Below w.heap.size w wr ∧ wr.heap[w.heap.size]? = some (.cells (aN A) 24) ∧ wr.heap[w.heap.size + 1]? = some (.cells (aN C) 24)) (fun i _ => 20 - (intOf i).toNat)
  case atStart => exact ⟨0, Nat.zero_le _, rfl, Lib.hid rfl, bW, f0, f1⟩
  case round =>
    obtain ⟨k, hk, rfl, HL, hb, ha, hr⟩ := hrel
    clear f0 f1 bW
    by_cases hlt : k < 20
    · have c0 := blk_cell ha (arr_get .u8 (fun i => ((ab A i : Nat) : Int)) hlt)
      have c1 := blk_cell hr (arr_get .u8 (fun i => ((ab C i : Nat) : Int)) hlt)
      have HA := Lib.hid ha
      have HR := Lib.hid hr
      have HB := Lib.hid hb
      have hl : lx (ab A) (ab C) (20 - k) k = if ab A k < ab C k then -1 else if ab C k < ab A k then 1 else lx (ab A) (ab C) (20 - (k + 1)) (k + 1) := by
        rw [show 20 - k = (20 - (k + 1)) + 1 by omega, lx]
      clear ha hr hb
      have cell : ∀ (g : Ext wr) {b o : Nat} {v : Value}, wr.cell? ⟨b, o, none⟩ = some v → g.on.cell? ⟨b, o, none⟩ = some v := fun g b o v h => (g.below.cell (p := ⟨b, o, none⟩) (by simpa using World.block_lt_of_cell? wr _ h)).trans h
      by_cases e : ab A k = ab C k
      · have HL2 := Lib.hid (HL.out.trans (hl.trans (by rw [e, if_neg (Nat.lt_irrefl _), if_neg (Nat.lt_irrefl _)])))
        clear hl HL
        rw [e] at c0
        have t1 := fun g => cell g c0
        have t2 := fun g => cell g c1
        clear cell c0 c1
        go_wp2_with fail
        refine region_ext (by kernel_rfl) (by kernel_rfl) ?_
        repeat (go_big_quiet_step (fail))
        refine wpQuiet_nil ?_
        rintro w' ⟨gg, rfl⟩
        have HA2 := Lib.hid (gg.block HA.out)
        have HR2 := Lib.hid (gg.block HR.out)
        have HB2 := Lib.hid (HB.out.trans (gg.below.mono HB.out.size))
        clear HA HR HB t1 t2
        go_wp2_with fail
        exact ⟨⟨k + 1, by omega, by go_num, HL2, HB2.out, HA2.out, HR2.out⟩, by simp [intOf]; omega⟩
      · have HL2 := Lib.hid (HL.out.trans hl)
        have hne : ((ab A k : Int) != (ab C k : Int)) = true := by simp; omega
        have hdec : decide (ab A k < ab C k) = decide (lx (ab A) (ab C) 20 0 = -1) := by
          rw [HL2.out]
          by_cases h1 : ab A k < ab C k
          · rw [if_pos h1]; simp; omega
          · rw [if_neg h1, if_pos (by omega)]; simp; omega
        have HD := Lib.hid hdec
        clear hl HL HL2 hdec
        have t1 := fun g => cell g c0
        have t2 := fun g => cell g c1
        clear cell c0 c1
        go_wp2_with fail
        refine region_ext (by kernel_rfl) (by kernel_rfl) ?_
        repeat (go_big_quiet_step (fail))
        refine wpQuiet_nil ?_
        rintro w' ⟨gg, rfl⟩
        have c0 := t1 gg
        have c1 := t2 gg
        have HB2 := Lib.hid (HB.out.trans (gg.below.mono HB.out.size))
        clear t1 t2 HA HR HB
        generalize gg.on = wg at *
        clear gg
        go_wp2_with fail
        refine region_ext (by kernel_rfl) (by kernel_rfl) ?_
        have cell : ∀ (g : Ext wg) {b o : Nat} {v : Value}, wg.cell? ⟨b, o, none⟩ = some v → g.on.cell? ⟨b, o, none⟩ = some v := fun g b o v h => (g.below.cell (p := ⟨b, o, none⟩) (by simpa using World.block_lt_of_cell? wg _ h)).trans h
        have t1 := fun g => cell g c0
        have t2 := fun g => cell g c1
        clear cell c0 c1
        repeat (go_big_quiet_step (fail))
        refine wpQuiet_nil ?_
        rintro w' ⟨gh, rfl⟩
        have HB3 := Lib.hid (HB2.out.trans (gh.below.mono HB2.out.size))
        clear t1 t2 HB2
        go_wp2_with fail
        go_ret
        exact ⟨by rw [← HD.out]; rfl, HB3.out⟩
    · obtain rfl : k = 20 := by omega
      have hdec : decide (lx (ab A) (ab C) 20 0 = -1) = false := by rw [HL.out]; rfl
      have HD := Lib.hid hdec
      have HB := Lib.hid hb
      clear hdec HL ha hr hb
      go_wp2_with fail
      go_ret
      exact ⟨by rw [HD.out]; rfl, HB.out⟩
theorem less_ad {A C : Nat} (hA : A < 2 ^ 160) (hC : C < 2 ^ 160) : (decide (lx (ab A) (ab C) 20 0 = -1)) = decide (A < C) := by
  have h := lx_ab A C 20 (Nat.le_refl _)
  rw [Nat.sub_self, Nat.mod_eq_of_lt (by simpa using hA), Nat.mod_eq_of_lt (by simpa using hC)] at h
  rw [h]
  unfold cmpN
  by_cases h1 : A < C
  · simp [h1]
  · by_cases h2 : C < A <;> simp [h1, h2]
end Go.Proofs.Ytpkoiifidlnbeaa
/- StorePlays, its parts: the document's Some. -/
namespace Go.Proofs.Ytpkoiifidlnbeaa
open Go.RowKit SmWord
set_option maxRecDepth 100000

def someV (l : List AV) : List AV := l.filter fun x => !emptyA x.a
theorem someV_snoc {l : List AV} {k : Nat} {x : AV} (h : l[k]? = some x) : someV (l.take (k + 1)) = someV (l.take k) ++ (if emptyA x.a then [] else [x]) := by
  unfold someV
  rw [List.take_add_one, h, List.filter_append]
  cases e : emptyA x.a <;> simp [e]
theorem someV_len (l : List AV) : (someV l).length ≤ l.length := List.length_filter_le _ _
theorem own_empty (w : World) (base : Nat) (hb : base ≤ w.heap.size) : (w.alloc (.cells #[] 46)).ownsRow base 46 27 (.slice (some ⟨w.heap.size, 0, none⟩) 0 0) 0 [] :=
  ⟨rfl, .inr ⟨w.heap.size, 0, #[], rfl, hb, heap_alloc_new _ _, Nat.le_refl _, by simp [maxLen], rfl, rfl⟩⟩
set_option maxHeartbeats 2000000 in
theorem rsome_walk (v : Value) (l : List AV) (w : World) (h : AccsZ (hp w) v l) (hl : l.length ≤ 1000000) :
    Calls Try.prog 22 #[v] w fun e w' => ∃ val, e = .returned val ∧ w'.ownsRow w.heap.size 46 27 val (someV l).length ((someV l).flatMap acs) ∧ Below w.heap.size w w' := by
  obtain ⟨A, c, rfl, hn, hc, hA, hcells⟩ := h.row.one (fun x _ => acs_len x)
  have HX := Lib.hid h.each
  generalize hN : l.length = n at *
  have HN := Lib.hid hN
  have HC : Hid (0 < n → ∃ b off, A = some ⟨b, off, none⟩ ∧ ∀ i x, l[i]? = some x → rng (hp w) b (off + i * 27) (acs x)) := Lib.hid fun hn => by
    obtain ⟨b, off, e, _, hi⟩ := hcells hn
    exact ⟨b, off, e, hi⟩
  clear hcells h hN
  obtain ⟨W, hW⟩ : ∃ W, w.alloc (.cells #[] 46) = W := ⟨_, rfl⟩
  have HO0 : Hid (W.ownsRow w.heap.size 46 27 (.slice (some ⟨w.heap.size, 0, none⟩) 0 0) 0 []) := Lib.hid (hW ▸ own_empty w w.heap.size (Nat.le_refl _))
  have HB0 : Hid (Below w.heap.size w W) := Lib.hid (hW ▸ (Below.refl _ _).alloc (Nat.le_refl _) _)
  go_enter Try.func22, Try.ntmps22
  go_wp2_with fail
  clear hW
  go_loopw [3, 8] (fun u i wr => ∃ k : Nat, k ≤ n ∧ i = .int .i64 k ∧ Hid (wr.ownsRow w.heap.size 46 27 u (someV (l.take k)).length ((someV (l.take k)).flatMap acs)) ∧ Hid (Below w.heap.size w wr)) (fun _ i _ => n - (intOf i).toNat)
  case atStart => exact ⟨0, Nat.zero_le _, rfl, HO0, HB0⟩
  case round =>
    obtain ⟨k, hk, rfl, HO, HW⟩ := hrel
    obtain ⟨A1, c1, e1⟩ := own_sl HO.out
    subst e1
    by_cases hlt : k < n
    · obtain ⟨b, off, rfl, hi⟩ := HC.out (by omega)
      obtain ⟨x, hx⟩ : ∃ x, l[k]? = some x := ⟨l[k]'(by rw [HN.out]; exact hlt), by simp⟩
      have r1 := ((hi k _ hx).sub (hp_below HW.out)).at
      have hxz := (HX.out x (List.mem_of_getElem? hx)).sub (hp_below HW.out)
      have HRg := Lib.hid ((hi k _ hx).sub (hp_below HW.out))
      have HXg := Lib.hid hx
      have KE := Lib.hid (rempty_walk x wr hxz)
      have OneL := Lib.hid (oneA x hxz.cod.oneCell hxz.sto.oneCell)
      unfold aval at KE
      have s27 : (acs x).toArray.size = 27 := by simp [acs_len]
      have f27 := fold27 x
      have hlen : (someV (l.take k)).length + 1 ≤ 4294967296 := by have := someV_len (l.take k); simp at this; omega
      clear hi hx hxz
      have hzr := HW.out.size
      cases hem : emptyA x.a
      · rw [hem] at KE
        have HE := Lib.hid hem
        clear hem
        go_wp2_with (first
          | (refine wpList_load_mid rfl 46 _ rfl b _ rfl (acs x) _ r1 Try.underlying46 rfl (infoAcs _) ?_)
          | (go_at_call 27
             refine KE.out.mono ?_
             rintro e w2 ⟨rfl, b2⟩
             have B2 := Lib.hid b2
             have r2 := (HRg.out.sub (hp_below b2)).at
             have b3 : Below wr.heap.size wr (w2.alloc (.cells (acs x).toArray 46)) := b2.trans (((Below.refl _ _).alloc (Nat.le_refl _) _).mono b2.size)
             have HO2 := Lib.hid (own_same HO.out (fun b hb => b3.block b (HO.out.lt b hb).2))
             have HR2 := Lib.hid (rowOne (heap_alloc_new w2 (.cells (acs x).toArray 46)))
             have hz2 := b2.size
             have BW3 : Hid (Below w.heap.size w (w2.alloc (.cells (acs x).toArray 46))) := Lib.hid (HW.out.trans (b3.mono HW.out.size))
             clear b2 b3)
          | (refine wpList_load_mid rfl 46 _ rfl b _ rfl (acs x) _ r2 Try.underlying46 rfl (infoAcs _) ?_)
          | (refine append_row rfl _ _ 30 rfl 46 (.agg (acs noneAV).toArray) 27 112 Try.underlying30 infoA27 (by simp [Value.cells, acs_len]) (by decide) (by decide) w.heap.size (.slice A1 (someV (l.take k)).length c1) (someV (l.take k)).length ((someV (l.take k)).flatMap acs) rfl HO2.out (.slice (some ⟨w2.heap.size, 0, none⟩) 1 1) 1 (acs x) rfl HR2.out OneL.out hlen (by simp; omega) ?_
             intro v7 w7 ho7 hg7 hl7
             have HO7 := Lib.hid ho7
             have BW7 : Hid (Below w.heap.size w w7) := Lib.hid (BW3.out.grown hg7 (by simp; omega) (fun k hk => (HO2.out.lt k hk).1))
             obtain ⟨A7, c7, rfl⟩ := own_sl ho7
             clear ho7 hg7 hl7))
        have hsn := someV_snoc HXg.out
        rw [HE.out] at hsn
        exact ⟨⟨k + 1, by omega, by go_num, Lib.hid (by rw [hsn]; simpa using HO7.out), BW7⟩, by simp [intOf]; omega⟩
      · rw [hem] at KE
        have HE := Lib.hid hem
        clear hem
        go_wp2_with (first
          | (refine wpList_load_mid rfl 46 _ rfl b _ rfl (acs x) _ r1 Try.underlying46 rfl (infoAcs _) ?_)
          | (go_at_call 27; refine KE.out.mono ?_; rintro e w2 ⟨rfl, b2⟩; have B2 := Lib.hid b2; clear b2))
        have hsn := someV_snoc HXg.out
        rw [HE.out] at hsn
        exact ⟨⟨k + 1, by omega, by go_num, Lib.hid (by
          rw [hsn]
          simpa using own_same HO.out (fun b hb => B2.out.block b (HO.out.lt b hb).2)), Lib.hid (HW.out.trans (B2.out.mono HW.out.size))⟩, by simp [intOf]; omega⟩
    · obtain rfl : k = n := by omega
      have heq : l.take k = l := List.take_of_length_le (by rw [HN.out]; exact Nat.le_refl _)
      rw [heq] at HO ⊢
      clear heq
      go_wp2_with fail
      go_ret
      exact ⟨_, rfl, HO.out, HW.out⟩
end Go.Proofs.Ytpkoiifidlnbeaa
/- StorePlays, its parts: the document's Find. -/
namespace Go.Proofs.Ytpkoiifidlnbeaa
open Go.RowKit SmWord
set_option maxRecDepth 100000

theorem eq_ad (A C : Nat) (hA : A < 2 ^ 160) (hC : C < 2 ^ 160) (w : World) : (Op.equalIn 10000 24 (.agg (aN A)) (.agg (aN C))).run Try.prog w = .ok (decide (A = C)) w := by
  obtain ⟨r, hr, hiff⟩ := equal_at 9998 (k := .u8) Try.underlying24 Try.underlying5 cells8 (aN A) (aN C) (aN_size A) (aN_size C) (fun i hi =>
    ⟨_, _, arr_get .u8 (n := 20) (fun i => ((ab A i : Nat) : Int)) hi, arr_get .u8 (n := 20) (fun i => ((ab C i : Nat) : Int)) hi⟩) w
  rw [hr]
  by_cases e : A = C
  · subst e
    rw [hiff.2 rfl]
    simp
  · cases r
    · simp [e]
    · exact absurd (aN_inj hA hC (hiff.1 rfl)) e
theorem acs_rng {Z : Hp} {b o : Nat} {x : AV} (h : rng Z b o (acs x)) : rng Z b o (aN x.a.ad).toList := by
  have := h.part 0 (aN x.a.ad).toList (acs_ad x)
  rwa [Nat.add_zero] at this
theorem look_at {l : List AV} {k A : Nat} {x : AV} (ho : ∀ x ∈ l.take k, x.a.ad ≠ A) (hx : l[k]? = some x) (hA : x.a.ad = A) : lookA (l.map AV.a) A = some x.a := by
  have hl : l = l.take k ++ x :: l.drop (k + 1) := by
    have h1 := List.take_append_drop k l
    have hk : k < l.length := (List.getElem?_eq_some_iff.1 hx).1
    have h2 : l.drop k = x :: l.drop (k + 1) := by
      rw [List.drop_eq_getElem_cons hk]
      congr 1
      exact (List.getElem?_eq_some_iff.1 hx).2
    rw [h2] at h1
    exact h1.symm
  rw [hl]
  unfold lookA
  rw [List.map_append, List.find?_append]
  have : (List.map AV.a (l.take k)).find? (fun y => y.ad == A) = none := by
    rw [List.find?_eq_none]
    intro y hy
    obtain ⟨z, hz, rfl⟩ := List.mem_map.1 hy
    simp [ho z hz]
  rw [this]
  simp [hA]
theorem look_none {l : List AV} {A : Nat} (ho : ∀ x ∈ l, x.a.ad ≠ A) : lookA (l.map AV.a) A = none :=
  lookA_none_of fun y hy => by
    obtain ⟨z, hz, rfl⟩ := List.mem_map.1 hy
    exact ho z hz
/-- What the document's Find finds. -/
def findO (l : List AV) (A : Nat) : Option AV := l.find? fun x => x.a.ad == A
def findV (l : List AV) (A : Nat) : AV := (findO l A).getD noneAV
theorem findO_at {l : List AV} {k A : Nat} {x : AV} (ho : ∀ x ∈ l.take k, x.a.ad ≠ A) (hx : l[k]? = some x) (hA : x.a.ad = A) : findO l A = some x := by
  have hl : l = l.take k ++ x :: l.drop (k + 1) := by
    have h1 := List.take_append_drop k l
    have hk : k < l.length := (List.getElem?_eq_some_iff.1 hx).1
    have h2 : l.drop k = x :: l.drop (k + 1) := by
      rw [List.drop_eq_getElem_cons hk]
      congr 1
      exact (List.getElem?_eq_some_iff.1 hx).2
    rw [h2] at h1
    exact h1.symm
  rw [hl]
  unfold findO
  rw [List.find?_append]
  have : (l.take k).find? (fun y => y.a.ad == A) = none := by
    rw [List.find?_eq_none]
    intro y hy
    simp [ho y hy]
  rw [this]
  simp [hA]
theorem findO_none {l : List AV} {A : Nat} (ho : ∀ x ∈ l, x.a.ad ≠ A) : findO l A = none := by
  unfold findO
  rw [List.find?_eq_none]
  intro y hy
  simp [ho y hy]
theorem findO_look (l : List AV) (A : Nat) : lookA (l.map AV.a) A = (findO l A).map AV.a := by
  unfold lookA findO
  rw [List.find?_map]
  rfl
theorem findV_a (l : List AV) (A : Nat) : (findV l A).a = (lookA (l.map AV.a) A).getD noneAV.a := by
  rw [findO_look]
  unfold findV
  cases findO l A <;> rfl
theorem findO_has (l : List AV) (A : Nat) : (findO l A).isSome = (lookA (l.map AV.a) A).isSome := by rw [findO_look]; cases findO l A <;> rfl
theorem findV_z {Z : Hp} {v : Value} {l : List AV} (h : AccsZ Z v l) (A : Nat) : AccZ Z (findV l A) := by
  unfold findV
  cases hf : findO l A with
  | none => exact noneZ Z
  | some x => exact h.each x (List.mem_of_find?_eq_some hf)
set_option maxHeartbeats 2000000 in
theorem rfind_walk (v : Value) (l : List AV) (A : Nat) (w : World) (h : AccsZ (hp w) v l) (hl : l.length ≤ 1000000) (hA : A < 2 ^ 160) :
    Calls Try.prog 18 #[v, .agg (aN A)] w fun e w' => e = .returned (.tuple #[aval (findV l A), .bool (findO l A).isSome]) ∧ Below w.heap.size w w' := by
  obtain ⟨P, c, rfl, hn, hc, hP, hcells⟩ := h.row.one (fun x _ => acs_len x)
  have HX := Lib.hid h.each
  have HAd := Lib.hid hA
  clear hA
  generalize hN : l.length = n at *
  have HN := Lib.hid hN
  have HC : Hid (0 < n → ∃ b off, P = some ⟨b, off, none⟩ ∧ ∀ i x, l[i]? = some x → rng (hp w) b (off + i * 27) (acs x)) := Lib.hid fun hn => by
    obtain ⟨b, off, e, _, hi⟩ := hcells hn
    exact ⟨b, off, e, hi⟩
  clear hcells h hN
  have hs := aN_size A
  have hnn : (acs noneAV).toArray.size = 27 := by simp [acs_len]
  obtain ⟨W, hW, f0, f1, bW, sW⟩ := fboxes w A
  have HB := Lib.hid bW
  have F0 := Lib.hid f0
  have F1 := Lib.hid f1
  clear f0 f1 bW
  go_enter Try.func18, Try.ntmps18
  go_upto_region 1 with (refine wpList_alloc_row rfl 46 rfl _ zeroAcc ?_)
  clear hW
  go_wp2_with fail
  go_loopw [9] (fun i wr => ∃ k : Nat, k ≤ n ∧ i = .int .i64 k ∧ Hid (∀ x ∈ l.take k, x.a.ad ≠ A) ∧ Hid (Below W.heap.size W wr)) (fun i _ => n - (intOf i).toNat)
  case atStart => exact ⟨0, Nat.zero_le _, rfl, Lib.hid (fun x hx => by simp at hx), Lib.hid (Below.refl _ _)⟩
  case round =>
    obtain ⟨k, hk, rfl, HO, HW⟩ := hrel
    have bwr : Below w.heap.size w wr := HB.out.trans (HW.out.mono HB.out.size)
    have BW := Lib.hid bwr
    by_cases hlt : k < n
    · obtain ⟨b, off, rfl, hi⟩ := HC.out (by omega)
      obtain ⟨x, hx⟩ : ∃ x, l[k]? = some x := ⟨l[k]'(by rw [HN.out]; exact hlt), by simp⟩
      have HXx := Lib.hid (HX.out x (List.mem_of_getElem? hx))
      have HRg := Lib.hid (hi k _ hx)
      have HXg := Lib.hid hx
      have r0 := fun g : Ext wr => (acs_rng (HRg.out.sub (hp_below (bwr.trans (g.below.mono bwr.size))))).at
      have r1 := fun g : Ext wr => adblk (g.block (stay HW.out F0.out))
      have eq := eq_ad x.a.ad A HXx.out.ad HAd.out
      clear hi hx bwr
      go_upto_region 4 with fail
      refine region_ext (by kernel_rfl) (by kernel_rfl) ?_
      repeat (first
        | (go_big_quiet_want; refine quiet_load_mid 24 _ rfl b (off + k * 27) (aN x.a.ad).toList rfl (fun w2 hw2 => by obtain ⟨g1, rfl⟩ := hw2; exact r0 g1) Try.underlying24 rfl (infoAd _) ?_; simp only [Act.put, List.setIfInBounds_toArray, List.set_cons_succ, List.set_cons_zero, Array.toArray_toList]; go_big_quiet_on)
        | (go_big_quiet_want; refine quiet_load_mid 24 _ rfl w.heap.size 0 (aN A).toList rfl (fun w2 hw2 => by obtain ⟨g1, rfl⟩ := hw2; exact r1 g1) Try.underlying24 rfl (infoAd _) ?_; simp only [Act.put, List.setIfInBounds_toArray, List.set_cons_succ, List.set_cons_zero, Array.toArray_toList]; go_big_quiet_on)
        | go_big_quiet_step (fail))
      refine wpQuiet_nil ?_
      rintro w' ⟨gg, rfl⟩
      have HG := Lib.hid gg.below
      have HWg := Lib.hid (HW.out.trans (gg.below.mono HW.out.size))
      have HBg := Lib.hid (BW.out.trans (gg.below.mono BW.out.size))
      have F1g := Lib.hid (stay (HW.out.trans (gg.below.mono HW.out.size)) F1.out)
      have r2 := (HRg.out.sub (hp_below HBg.out)).at
      clear r0 r1 eq HG
      generalize gg.on = wg at *
      have one := HXx.out.ones
      by_cases e : x.a.ad = A
      · rw [decide_eq_true e]
        have HE := Lib.hid e
        clear e
        go_wp2_with (first
          | (refine wpList_load_mid rfl 46 _ rfl b _ rfl (acs x) _ r2 Try.underlying46 rfl (infoAcs _) ?_)
          | (refine wpList_store_row rfl 46 _ _ rfl (w.heap.size + 1) _ (acs x).toArray rfl rfl F1g.out (by simpa using infoAcs _) (by simp [acs_len]) one ?_))
        refine bodyPost_ret (v := .tuple #[.agg (acs x).toArray, .bool true]) (results_cs rfl _ _ _ 46 _ (0, 0) _ (.bool true) rfl (blk_row F1g.out) Try.underlying46 rfl (by simpa using infoAcs _) rfl) rfl ?_
        have hb := below_setRow HBg.out (show w.heap.size ≤ w.heap.size + 1 by omega) (acs x).toArray
        exact ⟨by unfold findV; rw [findO_at HO.out HXg.out HE.out]; rfl, hb⟩
      · rw [decide_eq_false e]
        have HE := Lib.hid e
        clear e
        go_wp2_with fail
        exact ⟨⟨k + 1, by omega, by go_num, Lib.hid (fun y hy => by
          rw [List.take_add_one, HXg.out] at hy
          rcases List.mem_append.1 hy with hy | hy
          · exact HO.out y hy
          · simp at hy
            subst hy
            exact HE.out), HWg⟩, by simp [intOf]; omega⟩
    · obtain rfl : k = n := by omega
      have F1g := Lib.hid (stay HW.out F1.out)
      go_wp2_with (first
        | (refine wpList_store_row rfl 46 _ _ rfl (w.heap.size + 1) _ (acs noneAV).toArray rfl rfl F1g.out (by simpa using infoAcs _) rfl (noneZ (fun _ => none)).ones ?_))
      have hln : findO l A = none := findO_none (fun x hx => HO.out x (by rw [List.take_of_length_le (by rw [HN.out]; exact Nat.le_refl _)]; exact hx))
      refine bodyPost_ret (v := .tuple #[.agg (acs noneAV).toArray, .bool false]) (results_cs rfl _ _ _ 46 _ (0, 0) _ (.bool false) rfl (blk_row F1g.out) Try.underlying46 rfl (by simpa using infoAcs _) rfl) rfl ?_
      exact ⟨by unfold findV; rw [hln]; rfl, below_setRow BW.out (by omega) _⟩
end Go.Proofs.Ytpkoiifidlnbeaa
/- StorePlays, its parts: the document's Slot. -/
namespace Go.Proofs.Ytpkoiifidlnbeaa
open Go.RowKit SmWord
set_option maxRecDepth 100000

set_option maxHeartbeats 2000000 in
theorem rslot_walk (x : AV) (key : Nat) (w : World) (h : AccZ (hp w) x) (hk : key < M) :
    Calls Try.prog 20 #[aval x, wd key] w fun e w' => e = .returned (wd (slotV x.a.so key)) ∧ Below w.heap.size w w' := by
  unfold aval wd
  have hs : (acs x).toArray.size = 27 := by simp [acs_len]
  have hw := wa_size
  have e0 := z4w
  obtain ⟨f0, bW⟩ := boxA w x
  obtain ⟨W, hW⟩ : ∃ W, w.alloc (.cells (acs x).toArray 46) = W := ⟨_, rfl⟩
  rw [hW] at f0 bW
  have sW : W.heap.size = w.heap.size + 1 := by rw [← hW]; simp
  obtain ⟨V, hV⟩ : ∃ V, W.alloc (.cells (wa key) 27) = V := ⟨_, rfl⟩
  have f1 : V.heap[w.heap.size + 1]? = some (.cells (wa key) 27) := sW ▸ hV ▸ heap_alloc_new _ _
  have bV : Below W.heap.size W V := hV ▸ (Below.refl _ _).alloc (Nat.le_refl _) _
  have sV : V.heap.size = w.heap.size + 2 := by rw [← hV]; simp [sW]
  obtain ⟨U, hU⟩ : ∃ U, V.alloc (.cells (wa 0) 27) = U := ⟨_, rfl⟩
  have f2 : U.heap[w.heap.size + 2]? = some (.cells (wa 0) 27) := sV ▸ hU ▸ heap_alloc_new _ _
  have bU : Below V.heap.size V U := hU ▸ (Below.refl _ _).alloc (Nat.le_refl _) _
  have bwU : Below w.heap.size w U := bW.trans ((bV.trans (bU.mono bV.size)).mono bW.size)
  obtain ⟨QA, qc, hq1, hqn, hqc, hqA, hqcells⟩ := h.sto.one (fun s _ => scs_len s)
  have hsl := h.sl
  have HM := Lib.hid h.sM
  have HK := Lib.hid hk
  have F0 := Lib.hid (stay bU (stay bV f0))
  have F1 := Lib.hid (stay bU f1)
  have F2 := Lib.hid f2
  have HB := Lib.hid bwU
  have s0 : Hid (∀ g : Ext U, g.on.cell? ⟨w.heap.size, 26, none⟩ = some (.slice QA x.a.so.length qc)) := Lib.hid fun g => by
    have := (boxcells (g.block F0.out)).2.2.2.1
    rwa [hq1] at this
  have HX : Hid (0 < x.a.so.length → ∃ b off, QA = some ⟨b, off, none⟩ ∧ ∀ i s, x.a.so[i]? = some s → rng (hp U) b (off + i * 8) (scs s)) := Lib.hid fun hn => by
    obtain ⟨b, off, e, _, hi⟩ := hqcells hn
    exact ⟨b, off, e, fun i s hs => (hi i s hs).sub (hp_below bwU)⟩
  have g0 := s0.out ⟨U, Below.refl _ _⟩
  clear hqcells h hk f0 f1 f2 bW bV bU bwU hq1
  generalize x.a.so = so at *
  generalize hN : so.length = n at *
  have HN := Lib.hid hN
  clear hN
  go_enter Try.func20, Try.ntmps20
  go_upto_region 1 with fail
  clear hW hV hU
  go_wp2_with fail
  go_loopw [9] (fun i wr => ∃ k : Nat, k ≤ n ∧ i = .int .i64 k ∧ Hid (∀ s ∈ so.take k, s.1 ≠ key) ∧ Hid (Below U.heap.size U wr)) (fun i _ => n - (intOf i).toNat)
  case atStart => exact ⟨0, Nat.zero_le _, rfl, Lib.hid (fun x hx => by simp at hx), Lib.hid (Below.refl _ _)⟩
  case round =>
    obtain ⟨k, hk, rfl, HO, HW⟩ := hrel
    clear g0
    have BW : Hid (Below w.heap.size w wr) := Lib.hid (HB.out.trans (HW.out.mono HB.out.size))
    by_cases hlt : k < n
    · obtain ⟨b, off, rfl, hi⟩ := HX.out (by omega)
      obtain ⟨s, hs1⟩ : ∃ s, so[k]? = some s := ⟨so[k]'(by rw [HN.out]; exact hlt), by simp⟩
      have HSg := Lib.hid hs1
      have HRg := Lib.hid (hi k _ hs1)
      have hM := HM.out s (List.mem_of_getElem? hs1)
      have HMs := Lib.hid hM
      have c0 := fun g : Ext wr => s0.out ⟨g.on, HW.out.trans (g.below.mono HW.out.size)⟩
      have r0 : ∀ g : Ext wr, g.on.rangeAt b (off + k * 8) (wa s.1).toList := fun g => by
        have := (slotcells ((HRg.out.sub (hp_below (HW.out.trans (g.below.mono HW.out.size)))).at)).1
        exact this
      have r1 : ∀ g : Ext wr, g.on.rangeAt (w.heap.size + 1) 0 (wa key).toList := fun g => (rng_block (cs := (wa key).toList) (by simpa using g.block (stay HW.out F1.out))).at
      have eq : ∀ w : World, (Op.equalIn 10000 27 (.agg (wa s.1)) (.agg (wa key))).run Try.prog w = .ok (decide (s.1 = key)) w := fun w => by
        rw [equal_wa, Nat.mod_eq_of_lt hM.1, Nat.mod_eq_of_lt HK.out]
      clear hi hs1 hM
      go_upto_region 4 with fail
      refine region_ext (by kernel_rfl) (by kernel_rfl) ?_
      repeat (first
        | (go_big_quiet_want; refine quiet_load_mid 27 _ rfl b (off + k * 8) (wa s.1).toList rfl (fun w2 hw2 => by obtain ⟨g1, rfl⟩ := hw2; exact r0 g1) Try.underlying27 rfl (infoW4 _) ?_; simp only [Act.put, List.setIfInBounds_toArray, List.set_cons_succ, List.set_cons_zero, Array.toArray_toList]; go_big_quiet_on)
        | (go_big_quiet_want; refine quiet_load_mid 27 _ rfl (w.heap.size + 1) 0 (wa key).toList rfl (fun w2 hw2 => by obtain ⟨g1, rfl⟩ := hw2; exact r1 g1) Try.underlying27 rfl (infoW4 _) ?_; simp only [Act.put, List.setIfInBounds_toArray, List.set_cons_succ, List.set_cons_zero, Array.toArray_toList]; go_big_quiet_on)
        | go_big_quiet_step (fail))
      refine wpQuiet_nil ?_
      rintro w' ⟨gg, rfl⟩
      have HWg := Lib.hid (HW.out.trans (gg.below.mono HW.out.size))
      have HBg := Lib.hid (BW.out.trans (gg.below.mono BW.out.size))
      have F2g := Lib.hid (stay (HW.out.trans (gg.below.mono HW.out.size)) F2.out)
      have d0 := c0 gg
      have r2 := (slotcells ((HRg.out.sub (hp_below (HW.out.trans (gg.below.mono HW.out.size)))).at)).2
      clear r0 r1 eq c0
      generalize gg.on = wg at *
      by_cases e : s.1 = key
      · rw [decide_eq_true e]
        have HE := Lib.hid e
        have so2 := store_old (m := s.2) F2g.out
        clear e
        go_wp2_with (first
          | (refine wpList_load_mid rfl 27 _ rfl b (off + k * 8 + 4) rfl (wa s.2).toList _ r2 Try.underlying27 rfl (infoW4 _) ?_; simp only [Array.toArray_toList])
          | (refine wpList_store_row rfl 27 _ _ rfl (w.heap.size + 2) _ (wa s.2) rfl rfl F2g.out Try.infoWa (by simp [wa_size]) wa_one ?_))
        refine bodyPost_ret (v := wd s.2) (results_cell_row rfl _ _ _ 27 (wa s.2) (0, 0) _ rfl (blk_row F2g.out) Try.underlying27 rfl Try.infoWa) rfl ⟨by rw [slotV_at HO.out HSg.out HE.out], below_setRow HBg.out (by omega) _⟩
      · rw [decide_eq_false e]
        have HE := Lib.hid e
        clear e
        go_wp2_with fail
        exact ⟨⟨k + 1, by omega, by go_num, Lib.hid (fun y hy => by
          rw [List.take_add_one, HSg.out] at hy
          rcases List.mem_append.1 hy with hy | hy
          · exact HO.out y hy
          · simp at hy
            subst hy
            exact HE.out), HWg⟩, by simp [intOf]; omega⟩
    · obtain rfl : k = n := by omega
      have F2g := Lib.hid (stay HW.out F2.out)
      have so2 := store_old (m := 0) F2g.out
      go_wp2_with (first
        | (refine wpList_store_row rfl 27 _ _ rfl (w.heap.size + 2) _ (wa 0) rfl rfl F2g.out Try.infoWa (by simp [wa_size]) wa_one ?_))
      have hln : slotV so key = 0 := slotV_none (fun x hx => HO.out x (by rw [List.take_of_length_le (by rw [HN.out]; exact Nat.le_refl _)]; exact hx))
      refine bodyPost_ret (v := wd 0) (results_cell_row rfl _ _ _ 27 (wa 0) (0, 0) _ rfl (blk_row F2g.out) Try.underlying27 rfl Try.infoWa) rfl ⟨by rw [hln], below_setRow BW.out (by omega) _⟩
end Go.Proofs.Ytpkoiifidlnbeaa
