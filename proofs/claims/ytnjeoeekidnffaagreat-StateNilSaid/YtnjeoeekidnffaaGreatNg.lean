/- Stage 14: what a state asks its world. -/
import Derived.Test.YtnjeoeekidnffaaGreatNf
namespace Go.Proofs.YtnjeoeekidnffaaGreat
open Go.RowKit SmWord Go.Maps
set_option maxRecDepth 100000

/-- What may have changed. -/
structure Tch (s : Nat → Prop) (w w' : World) : Prop where
  os : w'.os = w.os
  tape : w'.tape = w.tape
  output : w'.output = w.output
  size : w.heap.size ≤ w'.heap.size
  block : ∀ k, k < w.heap.size → ¬ s k → w'.heap[k]? = w.heap[k]?
theorem Tch.refl (s : Nat → Prop) (w : World) : Tch s w w := ⟨rfl, rfl, rfl, Nat.le_refl _, fun _ _ _ => rfl⟩
theorem Tch.trans {s : Nat → Prop} {a b c : World} (h : Tch s a b) (k : Tch s b c) : Tch s a c :=
  ⟨k.os.trans h.os, k.tape.trans h.tape, k.output.trans h.output, Nat.le_trans h.size k.size, fun i hi hs => (k.block i (Nat.lt_of_lt_of_le hi h.size) hs).trans (h.block i hi hs)⟩
theorem Tch.of_below {s : Nat → Prop} {w w' : World} (h : Below w.heap.size w w') : Tch s w w' := ⟨h.os, h.tape, h.output, h.size, fun k hk _ => h.block k hk⟩
theorem Tch.grown {s : Nat → Prop} {w w' : World} {m : Nat} (h : w.grownBy w' (some m)) (hs : s m) : Tch s w w' :=
  ⟨h.os, h.tape, h.output, h.size, fun k hk hn => h.block k hk (fun e => by cases e; exact hn hs)⟩
theorem Tch.below {s : Nat → Prop} {w w' : World} {B : Nat} (h : Tch s w w') (hB : B ≤ w.heap.size) (hs : ∀ k, s k → B ≤ k) : Below B w w' :=
  ⟨h.os, h.tape, h.output, h.size, fun k hk => h.block k (by omega) (fun hk' => by have := hs k hk'; omega)⟩
theorem Tch.drew {s : Nat → Prop} {a w : World} (h : Tch s a w) : Tch s a w.drew := ⟨h.os, h.tape, h.output, h.size, h.block⟩
theorem Tch.sub {s : Nat → Prop} {w w' : World} {Z : Hp} (h : Tch s w w') (hz : Sub Z (hp w)) (hs : ∀ b, s b → Z b = none) : Sub Z (hp w') := fun b o ho => by
  have h1 := hz b o ho
  exact (h.block b (Array.getElem?_eq_some_iff.1 h1).1 (fun hb => by rw [hs b hb] at ho; cases ho)).trans h1

theorem orH_mono {Z Z1 Z2 : Hp} (h : Sub Z1 Z2) : Sub (orH Z Z1) (orH Z Z2) := fun b o hb => by
  unfold orH at hb ⊢
  cases hz : Z b with
  | some u => rw [hz] at hb; exact hb
  | none => rw [hz] at hb; exact h b o hb
theorem orH_none {Z Z1 : Hp} {b : Nat} (h : Z b = none) (h1 : Z1 b = none) : orH Z Z1 b = none := by
  unfold orH
  rw [h, h1]
  rfl
/-- What a world answers, whatever is made anew. -/
def WorldOk (Z : Hp) (wv : Value) (fa : Nat → Acc) (fk : Nat → Bool) : Prop := ∀ A, A < 2 ^ 160 → ∀ w, Sub Z (hp w) → Calls Tryz.prog 112 #[wv, .agg (aN A)] w (WorIs Z w A (fa A) (fk A))
theorem stc_mi (G : Gs) (A : Nat) : putAt (stC G) 2 (aN A).toList = stC { G with mi := A } := by
  unfold putAt stC
  have h1 : (aN G.mi).toList.length = 20 := by simp [aN_size]
  have h2 : (aN A).toList.length = 20 := by simp [aN_size]
  rw [h2]
  simp only [List.cons_append, List.take_succ_cons, List.take_zero, List.drop_succ_cons, List.nil_append, show 2 + 20 = 20 + 1 + 1 from rfl]
  rw [List.drop_append_of_le_length (by omega), List.drop_of_length_le (by omega)]
  rfl
theorem stc_set (G : Gs) (i : Nat) (v : Value) : (stC G).set (22 + i) v = G.wv :: .map (some G.am) :: (aN G.mi).toList ++ ([.bool G.ms, .int .i64 G.rf, G.lv, G.uv] : List Value).set i v := by
  unfold stC
  have h1 : (aN G.mi).toList.length = 20 := by simp [aN_size]
  rw [show 22 + i = (20 + i) + 1 + 1 by omega]
  simp only [List.cons_append, List.set_cons_succ]
  rw [List.set_append_right _ _ (by omega), h1, show 20 + i - 20 = i by omega]
theorem stc_ms (G : Gs) (b : Bool) : (stC G).set 22 (.bool b) = stC { G with ms := b } := stc_set G 0 _
theorem stc_rf (G : Gs) (x : Int) : (stC G).set 23 (.int .i64 x) = stC { G with rf := x } := stc_set G 1 _
theorem stc_lv (G : Gs) (v : Value) : (stC G).set 24 v = stC { G with lv := v } := stc_set G 2 _
theorem stc_uv (G : Gs) (v : Value) : (stC G).set 25 v = stC { G with uv := v } := stc_set G 3 _
/-- The state's own block turned. -/
theorem Core.turnS {Z : Hp} {base : Nat} {w : World} {G : Gs} (h : Core Z base w G) (mi : Nat) (ms : Bool) (rf : Int) (lv uv : Value) (hmi : mi < 2 ^ 160) :
    Core Z base (w.setRow G.sb (stC { G with mi := mi, ms := ms, rf := rf, lv := lv, uv := uv }).toArray) { G with mi := mi, ms := ms, rf := rf, lv := lv, uv := uv } :=
  { h with
    sub := fun b o ho => by
      have hne : b ≠ G.sb := fun e => by rw [e, h.zs _ _ h.osb] at ho; cases ho
      unfold hp
      rw [setRow_other _ _ _ _ hne]
      exact h.sub b o ho
    hold := fun b r hr => by
      by_cases e : b = G.sb
      · have hr' : G.own b = some r := hr
        rw [e, h.osb] at hr'
        injection hr' with hr'
        subst hr'
        rw [e]
        exact blk_row h.stc
      · have h1 : holds (w.setRow G.sb (stC { G with mi := mi, ms := ms, rf := rf, lv := lv, uv := uv }).toArray) G b r := (h.hold b r hr).same (setRow_other _ _ _ _ e)
        cases r with
        | stb => exact absurd (h.uniq b G.sb _ hr h.osb rfl) e
        | amap => exact h1
        | acc A => exact h1
        | sto => exact h1
        | now p => exact h1
        | warm A => exact h1
        | lgs => exact h1
        | und => exact h1
    mi := hmi
    acc := fun A b hb => by
      obtain ⟨h1, h2, h3⟩ := h.acc A b hb
      exact ⟨h1, h2, ⟨h3.z, h3.ad, h3.no, h3.ba, h3.sp, h3.wm⟩⟩ }
theorem tch_setRow {s : Nat → Prop} {w : World} {b : Nat} (hb : s b) (cs : Array Value) : Tch s w (w.setRow b cs) :=
  ⟨rfl, rfl, rfl, by rw [setRow_size]; exact Nat.le_refl _, fun k _ hk => setRow_other _ _ _ _ fun e => hk (e ▸ hb)⟩
/-- An account is laid where one was. -/
theorem store_acc {w : World} {b : Nat} {x y : AV} {T : TypeId} (hb : w.heap[b]? = some (.cells (acs y).toArray T)) (h1 : (acs x).toArray.all (·.oneCell') = true) : (storeCells ⟨b, 0, none⟩ (acs x) 0).run Tryz.prog w = .ok () (w.setRow b (acs x).toArray) := by
  have := run_storeCells_from (P := Tryz.prog) b T (acs x) 0 (acs y).toArray w hb (by simp [acs_len]) (fun v hv => (Array.all_eq_true_iff_forall_mem.1 h1) v (by simpa using hv))
  simpa [acs_len] using this
/-- The account that is asked for. -/
def askA (fa : Nat → Acc) (fk : Nat → Bool) (A : Nat) : Acc := if fk A then { fa A with ad := A } else (bareAV A).a
/-- What is missing is noted. -/
def askG (G : Gs) (fk : Nat → Bool) (A : Nat) : Gs := if fk A || G.ms then G else { G with mi := A, ms := true }
set_option maxHeartbeats 4000000 in
/-- What ask answers. -/
theorem ask_walk {Z : Hp} {base : Nat} {w : World} {G : Gs} {fa : Nat → Acc} {fk : Nat → Bool} (h : Core Z base w G) (hw : WorldOk Z G.wv fa fk) (A : Nat) (hA : A < 2 ^ 160) :
    Calls Tryz.prog 96 #[.pointer (some ⟨G.sb, 0, none⟩), .agg (aN A)] w fun e w' => ∃ y : AV, e = .returned (aval y) ∧ y.a = askA fa fk A ∧ AccZ (orH Z (fr w.heap.size w')) y ∧
      Core Z base w' (askG G fk A) ∧ Tch (fun b => G.own b = some .stb) w w' := by
  have hs : ∀ x, (acs x).toArray.size = 27 := fun x => by simp [acs_len]
  have hsN := aN_size A
  obtain ⟨W, hW, f0, f1, bW, sW⟩ := aboxes w A
  have HW := Lib.hid hw
  have ZN : Hid (∀ b, w.heap.size ≤ b → Z b = none) := Lib.hid fun b hb => by
    cases hz : Z b with
    | none => rfl
    | some o =>
      have := (Array.getElem?_eq_some_iff.1 (h.sub b o hz)).1
      omega
  have HC := Lib.hid (h.below bW)
  have HH := Lib.hid h
  have HB := Lib.hid bW
  have F0 := Lib.hid f0
  have F1 := Lib.hid f1
  have HA := Lib.hid hA
  clear h hw f0 f1 bW hA
  go_enter Tryz.func96, Tryz.ntmps96
  go_upto_region 1 with (refine wpList_alloc_row rfl 69 rfl _ zeroAcc ?_)
  simp only [Act.put, List.setIfInBounds_toArray, List.set_cons_succ, List.set_cons_zero, World.size_alloc]
  rw [hW]
  clear hW
  go_cut [5, 6] from 7 to 33 (fun s5 s6 wx => ∃ (xb : Nat) (x : AV), s5 = .pointer (some ⟨xb, 0, none⟩) ∧ s6 = .bool (fk A) ∧ Hid (wx.heap[xb]? = some (.cells (acs x).toArray 69)) ∧ Hid (x.a = fa A) ∧ (∃ Zx : Hp, AccZ Zx x ∧ Sub Zx (orH Z (fr W.heap.size wx)) ∧ Zx xb = none) ∧ Hid (Below W.heap.size W wx) ∧ W.heap.size ≤ xb)
  case first =>
    obtain ⟨c0, -, -, -, -, -, -⟩ := stc_cells HC.out.stc
    have KW : ∀ w', Below W.heap.size W w' → Calls Tryz.prog 112 #[G.wv, .agg (aN A)] w' (WorIs Z w' A (fa A) (fk A)) := fun w' hb => HW.out A HA.out w' (HC.out.sub.trans (hp_below hb))
    have HKW := Lib.hid KW
    have C0 := Lib.hid fun w' (hb : Below W.heap.size W w') => (hb.cell (p := ⟨G.sb, 0, none⟩) (HC.out.lt HC.out.osb)).trans c0
    have R0 := Lib.hid fun w' (hb : Below W.heap.size W w') => adblk (stay hb F0.out)
    have D0 : Hid (Below W.heap.size W W.drew) := Lib.hid (Below.refl _ _).drew
    clear KW c0
    refine wp_region_held_drew (S := fun w' => Below W.heap.size W w') (by kernel_rfl) D0.out (fun hHeld => ?_)
    refine wpAnyH_take (i := 0) (oi := ⟨_, _, _, _, _, _⟩) (v := ?_) rfl (by kernel_rfl) (by kernel_rfl) (by kernel_rfl) (fun _ _ _ h => h) (Or.inl ⟨by rfl, ?_⟩) (by assumption) ?_
    rotate_left
    · (intro w hSw; first | (go_simp; done) | (go_simp; with_reducible rfl))
    try simp only [Act.put, List.setIfInBounds_toArray, List.set_cons_zero, List.set_cons_succ]
    refine wpAnyH_take (i := 1) (oi := ⟨_, _, _, _, _, _⟩) (v := ?_) rfl (by kernel_rfl) (by kernel_rfl) (by kernel_rfl) (fun _ _ _ h => h) (Or.inl ⟨by rfl, ?_⟩) (by assumption) ?_
    rotate_left
    · (intro w hSw; first | (go_simp; done) | (go_simp; with_reducible rfl))
    try simp only [Act.put, List.setIfInBounds_toArray, List.set_cons_zero, List.set_cons_succ]
    refine wpAnyH_take (i := 2) (oi := ⟨_, _, _, _, _, _⟩) (v := ?_) rfl (by kernel_rfl) (by kernel_rfl) (by kernel_rfl) (fun _ _ _ h => h) (Or.inl ⟨by rfl, ?_⟩) (by assumption) ?_
    rotate_left
    · (intro w hSw; first | (go_simp; done) | (go_simp; with_reducible rfl))
    try simp only [Act.put, List.setIfInBounds_toArray, List.set_cons_zero, List.set_cons_succ]
    refine wpAnyH_take (i := 3) (oi := ⟨_, _, _, _, _, _⟩) (v := ?_) rfl (by kernel_rfl) (by kernel_rfl) (by kernel_rfl) (fun _ _ _ h => h) (Or.inl ⟨by rfl, ?_⟩) (by assumption) ?_
    rotate_left
    · (intro w hSw; have hc := C0.out w hSw; first | (go_simp; done) | (go_simp; with_reducible rfl))
    try simp only [Act.put, List.setIfInBounds_toArray, List.set_cons_zero, List.set_cons_succ]
    refine wpAnyH_take (i := 4) (oi := ⟨_, _, _, _, _, _⟩) rfl (by kernel_rfl) (by kernel_rfl) (by kernel_rfl) (fun _ _ _ h => h) (yieldsIf_load_mid (by rfl) 41 _ rfl w.heap.size 0 rfl (aN A).toList _ (R0.out) Tryz.underlying41 rfl (infoAd _)) (by assumption) ?_
    try simp only [Act.put, List.setIfInBounds_toArray, List.set_cons_zero, List.set_cons_succ, Array.toArray_toList]
    refine wpAnyH_ready (rs := [5, 9]) (by kernel_rfl) (by simp) ?_
    refine AllReadyH.cons (o := ⟨_, _, _, _, _, _⟩) rfl (fun K hK => ?_) (AllReadyH.cons (o := ⟨_, _, _, _, _, _⟩) rfl (fun K hK => ?_) AllReadyH.nil)
    · go_simp
      go_wp2_with (go_at_call 112; refine (HKW.out _ D0.out).mono ?_; rintro e w1 ⟨x, rfl, hxa, hxz, -, b1⟩)
      unfold aval
      have HB1 := Lib.hid (D0.out.trans (b1.mono D0.out.size))
      have HXA := Lib.hid hxa
      have HXZ : Hid (AccZ (orH Z (fr W.heap.size w1)) x) := Lib.hid hxz
      clear hxa hxz b1
      refine hK.out _ _ HB1.out (fun hHeld => ?_)
      clear hK K
      try simp only [Act.put, List.setIfInBounds_toArray, List.set_cons_zero, List.set_cons_succ]
      refine wpAnyH_take (i := 6) (oi := ⟨_, _, _, _, _, _⟩) (v := ?_) rfl (by kernel_rfl) (by kernel_rfl) (by kernel_rfl) (fun _ _ _ h => h) (Or.inl ⟨by rfl, ?_⟩) (by assumption) ?_
      rotate_left
      · (intro w hSw; first | (go_simp; done) | (go_simp; with_reducible rfl))
      try simp only [Act.put, List.setIfInBounds_toArray, List.set_cons_zero, List.set_cons_succ]
      refine wpAnyH_take (i := 7) (oi := ⟨_, _, _, _, _, _⟩) (v := ?_) rfl (by kernel_rfl) (by kernel_rfl) (by kernel_rfl) (fun _ _ _ h => h) (Or.inl ⟨by rfl, ?_⟩) (by assumption) ?_
      rotate_left
      · (intro w hSw; first | (go_simp; done) | (go_simp; with_reducible rfl))
      try simp only [Act.put, List.setIfInBounds_toArray, List.set_cons_zero, List.set_cons_succ]
      refine wpAnyH_take (i := 8) (oi := ⟨_, _, _, _, _, _⟩) (v := ?_) rfl (by kernel_rfl) (by kernel_rfl) (by kernel_rfl) (fun _ _ _ h => h) (Or.inl ⟨by rfl, ?_⟩) (by assumption) ?_
      rotate_left
      · (intro w hSw; first | (go_simp; done) | (go_simp; with_reducible rfl))
      try simp only [Act.put, List.setIfInBounds_toArray, List.set_cons_zero, List.set_cons_succ]
      refine wpAnyH_ready (rs := [9]) (by kernel_rfl) (by simp) ?_
      refine AllReadyH.cons (o := ⟨_, _, _, _, _, _⟩) rfl (fun K hK => ?_) AllReadyH.nil
      have hza := zeroAcc
      go_simp
      clear hza
      refine hK.out _ _ (HB1.out.alloc HB1.out.size _) (fun hHeld => ?_)
      clear hK K
      try simp only [Act.put, List.setIfInBounds_toArray, List.set_cons_zero, List.set_cons_succ]
      have one := HXZ.out.ones
      have FN := Lib.hid (heap_alloc_new w1 (.cells (acs noneAV).toArray 69))
      have hst := store_acc FN.out one
      refine wpAnyH_ready (rs := [10]) (by kernel_rfl) (by simp) ?_
      refine AllReadyH.cons (o := ⟨_, _, _, _, _, _⟩) rfl (fun K hK => ?_) AllReadyH.nil
      go_simp
      have HB2 := Lib.hid (below_setRow (HB1.out.alloc HB1.out.size (.cells (acs noneAV).toArray 69)) HB1.out.size (acs x).toArray)
      refine hK.out _ _ HB2.out (fun hHeld => ?_)
      clear hK K hst
      try simp only [Act.put, List.setIfInBounds_toArray, List.set_cons_zero, List.set_cons_succ]
      refine wpAnyH_take (i := 11) (oi := ⟨_, _, _, _, _, _⟩) (v := ?_) rfl (by kernel_rfl) (by kernel_rfl) (by kernel_rfl) (fun _ _ _ h => h) (Or.inl ⟨by rfl, ?_⟩) (by assumption) ?_
      rotate_left
      · (intro w hSw; first | (go_simp; done) | (go_simp; with_reducible rfl))
      try simp only [Act.put, List.setIfInBounds_toArray, List.set_cons_zero, List.set_cons_succ]
      refine wpAnyH_done (by kernel_rfl) ?_ _
      clear hHeld
      go_wp2_with fail
      go_meet
      refine ⟨w1.heap.size, x, rfl, rfl, Lib.hid (blk_row FN.out), HXA, ⟨_, HXZ.out, orH_mono fun b o ho => ?_, ?_⟩, HB2, HB1.out.size⟩
      · unfold fr at ho ⊢
        split at ho
        · have hlt := (Array.getElem?_eq_some_iff.1 ho).1
          rw [if_pos (by assumption), setRow_other _ _ _ _ (by omega)]
          exact blk_alloc ho
        · cases ho
      · refine orH_none (ZN.out _ (by have := HB1.out.size; omega)) ?_
        unfold fr
        rw [if_pos HB1.out.size]
        simp
    · have hza := zeroAcc
      have D1 : Hid (Below W.heap.size W (W.drew.alloc (.cells (acs noneAV).toArray 69))) := Lib.hid (D0.out.alloc D0.out.size _)
      have FN : Hid ((W.drew.alloc (.cells (acs noneAV).toArray 69)).heap[W.heap.size]? = some (.cells (acs noneAV).toArray 69)) := Lib.hid (heap_alloc_new W.drew _)
      have s1 : (W.drew.alloc (.cells (acs noneAV).toArray 69)).heap.size = W.heap.size + 1 := by simp
      go_simp
      clear hza
      refine hK.out _ _ D1.out (fun hHeld => ?_)
      clear hK K
      try simp only [Act.put, List.setIfInBounds_toArray, List.set_cons_zero, List.set_cons_succ]
      obtain ⟨W1, hW1⟩ : ∃ W1, (W.alloc (.cells (acs noneAV).toArray 69)).drew = W1 := ⟨_, rfl⟩
      rw [show W.drew.alloc (.cells (acs noneAV).toArray 69) = (W.alloc (.cells (acs noneAV).toArray 69)).drew from rfl, hW1] at D1 FN s1
      rw [hW1] at hHeld ⊢
      clear hW1
      refine wpAnyH_ready (rs := [5]) (by kernel_rfl) (by simp) ?_
      refine AllReadyH.cons (o := ⟨_, _, _, _, _, _⟩) rfl (fun K hK => ?_) AllReadyH.nil
      go_simp
      go_wp2_with (go_at_call 112; refine (HKW.out _ D1.out).mono ?_; rintro e w1 ⟨x, rfl, hxa, hxz, -, b1⟩)
      unfold aval
      have HB1 := Lib.hid (D1.out.trans (b1.mono D1.out.size))
      have HXA := Lib.hid hxa
      have F2 := Lib.hid (stay b1 FN.out)
      rw [sW] at F2
      have HXZ := Lib.hid hxz
      have one := HXZ.out.ones
      clear hxa hxz b1
      refine hK.out _ _ HB1.out (fun hHeld => ?_)
      clear hK K
      try simp only [Act.put, List.setIfInBounds_toArray, List.set_cons_zero, List.set_cons_succ]
      refine wpAnyH_take (i := 6) (oi := ⟨_, _, _, _, _, _⟩) (v := ?_) rfl (by kernel_rfl) (by kernel_rfl) (by kernel_rfl) (fun _ _ _ h => h) (Or.inl ⟨by rfl, ?_⟩) (by assumption) ?_
      rotate_left
      · (intro w hSw; first | (go_simp; done) | (go_simp; with_reducible rfl))
      try simp only [Act.put, List.setIfInBounds_toArray, List.set_cons_zero, List.set_cons_succ]
      refine wpAnyH_take (i := 7) (oi := ⟨_, _, _, _, _, _⟩) (v := ?_) rfl (by kernel_rfl) (by kernel_rfl) (by kernel_rfl) (fun _ _ _ h => h) (Or.inl ⟨by rfl, ?_⟩) (by assumption) ?_
      rotate_left
      · (intro w hSw; first | (go_simp; done) | (go_simp; with_reducible rfl))
      try simp only [Act.put, List.setIfInBounds_toArray, List.set_cons_zero, List.set_cons_succ]
      refine wpAnyH_take (i := 8) (oi := ⟨_, _, _, _, _, _⟩) (v := ?_) rfl (by kernel_rfl) (by kernel_rfl) (by kernel_rfl) (fun _ _ _ h => h) (Or.inl ⟨by rfl, ?_⟩) (by assumption) ?_
      rotate_left
      · (intro w hSw; first | (go_simp; done) | (go_simp; with_reducible rfl))
      try simp only [Act.put, List.setIfInBounds_toArray, List.set_cons_zero, List.set_cons_succ]
      have hst := store_acc F2.out one
      refine wpAnyH_ready (rs := [10]) (by kernel_rfl) (by simp) ?_
      refine AllReadyH.cons (o := ⟨_, _, _, _, _, _⟩) rfl (fun K hK => ?_) AllReadyH.nil
      go_simp
      have HB2 := Lib.hid (below_setRow HB1.out (show W.heap.size ≤ w.heap.size + 2 by omega) (acs x).toArray)
      refine hK.out _ _ HB2.out (fun hHeld => ?_)
      clear hK K hst
      try simp only [Act.put, List.setIfInBounds_toArray, List.set_cons_zero, List.set_cons_succ]
      refine wpAnyH_take (i := 11) (oi := ⟨_, _, _, _, _, _⟩) (v := ?_) rfl (by kernel_rfl) (by kernel_rfl) (by kernel_rfl) (fun _ _ _ h => h) (Or.inl ⟨by rfl, ?_⟩) (by assumption) ?_
      rotate_left
      · (intro w hSw; first | (go_simp; done) | (go_simp; with_reducible rfl))
      try simp only [Act.put, List.setIfInBounds_toArray, List.set_cons_zero, List.set_cons_succ]
      refine wpAnyH_done (by kernel_rfl) ?_ _
      clear hHeld
      go_wp2_with fail
      go_meet
      refine ⟨w.heap.size + 2, x, rfl, rfl, Lib.hid (blk_row F2.out), HXA, ⟨_, HXZ.out, orH_mono fun b o ho => ?_, ?_⟩, HB2, by omega⟩
      · unfold fr at ho ⊢
        split at ho
        · rw [if_pos (by omega), setRow_other _ _ _ _ (by omega)]
          exact ho
        · cases ho
      · refine orH_none (ZN.out _ (by omega)) ?_
        unfold fr
        rw [if_neg (by omega)]
  case rest =>
    obtain ⟨xb, x, rfl, rfl, FX, HXA, ⟨Zx, hzx, hzs, hzn⟩, HBx, hxb⟩ := hcut
    have HCx := Lib.hid (HC.out.below HBx.out)
    have F0x := Lib.hid (stay HBx.out F0.out)
    have F1x := Lib.hid (stay HBx.out F1.out)
    have hsub : Sub (orH Z (fr W.heap.size wc)) (orH Z (fr w.heap.size wc)) := orH_mono fun b o ho => by
      unfold fr at ho ⊢
      split at ho
      · rw [if_pos (by omega)]; exact ho
      · cases ho
    have HS : Hid (∀ w', w.heap.size ≤ w'.heap.size → (∀ b, b ≠ xb → b ≠ w.heap.size + 1 → w.heap.size ≤ b → b < wc.heap.size → w'.heap[b]? = wc.heap[b]?) → AccZ (orH Z (fr w.heap.size w')) x) := Lib.hid fun w' _ hb' => hzx.sub fun b o ho => by
      have h1 := hzs b o ho
      have hne : b ≠ xb := fun e => by rw [e, hzn] at ho; cases ho
      unfold orH at h1 ⊢
      cases hz : Z b with
      | some u => rw [hz] at h1; exact h1
      | none =>
        rw [hz] at h1
        simp only [Option.none_or] at h1 ⊢
        unfold fr at h1 ⊢
        split at h1
        · have hlt := (Array.getElem?_eq_some_iff.1 h1).1
          rw [if_pos (by omega), hb' b hne (by omega) (by omega) hlt]
          exact h1
        · cases h1
    clear hzx hzs hzn hsub
    have HT := Lib.hid (HB.out.trans (HBx.out.mono (by omega)))
    have zx := (Array.getElem?_eq_some_iff.1 F1x.out).1
    have zb := (Array.getElem?_eq_some_iff.1 FX.out).1
    have HZb := Lib.hid (bareZ (fun _ => none) HA.out)
    have zbs : ∀ Zq : Hp, AccZ Zq (bareAV A) := fun Zq => bareZ Zq HA.out
    have oneb := HZb.out.ones
    cases hk : fk A
    · obtain ⟨-, -, -, c22, -, -, -⟩ := stc_cells HCx.out.stc
      cases hm : G.ms
      · rw [hm] at c22
        have HM := Lib.hid hm
        have HK := Lib.hid hk
        clear hm hk
        have r0 := adblk F0x.out
        have hsb := HCx.out.stc
        have HC6 := Lib.hid (HCx.out.turnS A G.ms G.rf G.lv G.uv HA.out)
        have HC7 := Lib.hid (HC6.out.turnS A true G.rf G.lv G.uv HA.out)
        have h2 : (aN A).toList.length = 20 := by simp [aN_size]
        have hst : (storeCells ⟨G.sb, 2, none⟩ (aN A).toList 0).run Tryz.prog wc = .ok () (wc.setRow G.sb (stC { G with mi := A }).toArray) := by
          have := run_storeCells_at Tryz.prog G.sb 2 88 (aN A).toList 0 (stC G).toArray wc hsb (by rw [h2]; simp [stC_len]) (fun v hv => (Array.all_eq_true_iff_forall_mem.1 (arr_one .u8 20 _)) v (by simpa [aN] using hv))
          rw [← stc_mi]
          simpa [putAt, h2] using this
        have f6 : (wc.setRow G.sb (stC { G with mi := A }).toArray).heap[G.sb]? = some (.cells (stC { G with mi := A }).toArray 88) := blk_row hsb
        obtain ⟨-, -, -, c6, -, -, -⟩ := stc_cells (G := { G with mi := A }) f6
        have z6 := blk_frozen (j := 22) f6
        have hsc := setCell_put f6 (by rw [stC_len]; decide : 22 < (stC { G with mi := A }).length) (.bool true)
        rw [putAt_one (by rw [stC_len]; decide), stc_ms] at hsc
        have nsb := HC.out.lt HC.out.osb
        have nsb2 : G.sb < w.heap.size := HH.out.lt HH.out.osb
        go_upto_region 7 with (refine wpList_load_mid rfl 41 _ rfl w.heap.size 0 rfl (aN A).toList _ r0 Tryz.underlying41 rfl (infoAd _) ?_; simp only [Array.toArray_toList])
        clear hst hsc c6 z6 c22
        have F17 : Hid (((wc.setRow G.sb (stC { G with mi := A }).toArray).setRow G.sb (stC { G with mi := A, ms := true }).toArray).heap[w.heap.size + 1]? = some (.cells (acs noneAV).toArray 69)) := Lib.hid ((setRow_other _ _ _ _ (by omega)).trans ((setRow_other _ _ _ _ (by omega)).trans F1x.out))
        have r1 : ((wc.setRow G.sb (stC { G with mi := A }).toArray).setRow G.sb (stC { G with mi := A, ms := true }).toArray).rangeAt w.heap.size 0 (aN A).toList := adblk ((setRow_other _ _ _ _ (by omega)).trans ((setRow_other _ _ _ _ (by omega)).trans F0x.out))
        have HT7 : Hid (Tch (fun b => G.own b = some .stb) w ((wc.setRow G.sb (stC { G with mi := A }).toArray).setRow G.sb (stC { G with mi := A, ms := true }).toArray)) := Lib.hid (((Tch.of_below HT.out).trans (tch_setRow HH.out.osb _)).trans (tch_setRow HH.out.osb _))
        obtain ⟨w7, h7⟩ : ∃ w7, (wc.setRow G.sb (stC { G with mi := A }).toArray).setRow G.sb (stC { G with mi := A, ms := true }).toArray = w7 := ⟨_, rfl⟩
        rw [h7] at F17 r1 HT7 ⊢
        replace HC7 : Hid (Core Z base w7 { G with mi := A, ms := true }) := Lib.hid (h7 ▸ HC7.out)
        clear h7 f6 r0 hsb
        go_wp2_with (first
          | (refine wpList_load_mid rfl 41 _ rfl w.heap.size 0 rfl (aN A).toList _ r1 Tryz.underlying41 rfl (infoAd _) ?_; simp only [Array.toArray_toList])
          | (refine wpList_buildAd rfl _ rfl A rfl ?_)
          | (refine wpList_store_row rfl 69 _ _ rfl (w.heap.size + 1) _ (acs (bareAV A)).toArray rfl rfl F17.out (by simpa using infoAcs _) (by simp [acs_len]) oneb ?_))
        refine bodyPost_ret (v := .agg (acs (bareAV A)).toArray) (results_cell_row rfl _ _ _ 69 _ (0, 0) _ rfl (blk_row F17.out) Tryz.underlying69 rfl (by simpa using infoAcs _)) rfl ⟨bareAV A, rfl, ?_, zbs _, ?_, ?_⟩
        · rw [askA, HK.out]; rfl
        · rw [askG, HK.out, HM.out]
          refine HC7.out.frame (fun b o ho => ?_) fun b r hr => setRow_other _ _ _ _ ?_
          · have h1 := HC7.out.sub b o ho
            unfold hp at h1 ⊢
            rw [setRow_other _ _ _ _ fun e => ?_]
            · exact h1
            · rw [ZN.out b (by omega)] at ho
              cases ho
          · have := HH.out.lt (show G.own b = some r from hr)
            omega
        · refine ⟨HT7.out.os, HT7.out.tape, HT7.out.output, by rw [setRow_size]; exact HT7.out.size, fun k hk1 hk2 => ?_⟩
          rw [setRow_other _ _ _ _ (by omega)]
          exact HT7.out.block k hk1 hk2
      · rw [hm] at c22
        have HM := Lib.hid hm
        have HK := Lib.hid hk
        clear hm hk
        have r1 := adblk F0x.out
        have hbl := below_setRow HT.out (show w.heap.size ≤ w.heap.size + 1 by omega) (acs (bareAV A)).toArray
        have HBL := Lib.hid hbl
        clear hbl
        go_wp2_with (first
          | (refine wpList_load_mid rfl 41 _ rfl w.heap.size 0 rfl (aN A).toList _ r1 Tryz.underlying41 rfl (infoAd _) ?_; simp only [Array.toArray_toList])
          | (refine wpList_buildAd rfl _ rfl A rfl ?_)
          | (refine wpList_store_row rfl 69 _ _ rfl (w.heap.size + 1) _ (acs (bareAV A)).toArray rfl rfl F1x.out (by simpa using infoAcs _) (by simp [acs_len]) oneb ?_))
        refine bodyPost_ret (v := .agg (acs (bareAV A)).toArray) (results_cell_row rfl _ _ _ 69 _ (0, 0) _ rfl (blk_row F1x.out) Tryz.underlying69 rfl (by simpa using infoAcs _)) rfl ⟨bareAV A, rfl, ?_, zbs _, ?_, Tch.of_below HBL.out⟩
        · rw [askA, HK.out]; rfl
        · rw [askG, HM.out, Bool.or_true]
          exact HH.out.below HBL.out
    · --KNOWN
      have HK := Lib.hid hk
      clear hk
      have r0 := adblk F0x.out
      have hst := store_ad FX.out A
      go_upto_region 4 with (refine wpList_load_mid rfl 41 _ rfl w.heap.size 0 rfl (aN A).toList _ r0 Tryz.underlying41 rfl (infoAd _) ?_; simp only [Array.toArray_toList])
      have FX2 := Lib.hid (blk_row FX.out (c' := (acs (reAd x A)).toArray))
      have F12 : Hid ((wc.setRow xb (acs (reAd x A)).toArray).heap[w.heap.size + 1]? = some (.cells (acs noneAV).toArray 69)) := Lib.hid ((setRow_other _ _ _ _ (by omega)).trans F1x.out)
      have hz2 : AccZ (orH Z (fr w.heap.size ((wc.setRow xb (acs (reAd x A)).toArray).setRow (w.heap.size + 1) (acs (reAd x A)).toArray))) x := HS.out _ (by simp only [setRow_size]; omega) fun b h1 h2 _ _ => by
        rw [setRow_other _ _ _ _ h2, setRow_other _ _ _ _ h1]
      have HZ2 := Lib.hid (reAdZ hz2 HA.out)
      have one := HZ2.out.ones
      have rx := (rng_block FX2.out).at
      clear r0 hst hz2
      obtain ⟨wk, hwk⟩ : ∃ wk, wc.setRow xb (acs (reAd x A)).toArray = wk := ⟨_, rfl⟩
      have HTk := Lib.hid (below_setRow HT.out (show w.heap.size ≤ xb by omega) (acs (reAd x A)).toArray)
      rw [hwk] at HTk
      rw [hwk] at FX2 F12 HZ2 rx ⊢
      clear hwk
      go_wp2_with (first
        | (refine wpList_load_mid rfl 69 _ rfl xb 0 rfl (acs (reAd x A)) _ rx Tryz.underlying69 rfl (infoAcs _) ?_)
        | (refine wpList_store_row rfl 69 _ _ rfl (w.heap.size + 1) _ (acs (reAd x A)).toArray rfl rfl F12.out (by simpa using infoAcs _) (by simp [acs_len]) one ?_))
      have hbl := below_setRow HTk.out (show w.heap.size ≤ w.heap.size + 1 by omega) (acs (reAd x A)).toArray
      refine bodyPost_ret (v := .agg (acs (reAd x A)).toArray) (results_cell_row rfl _ _ _ 69 _ (0, 0) _ rfl (blk_row F12.out) Tryz.underlying69 rfl (by simpa using infoAcs _)) rfl ⟨reAd x A, rfl, ?_, HZ2.out, ?_, Tch.of_below hbl⟩
      · rw [askA, HK.out, ← HXA.out]
        rfl
      · rw [askG, HK.out]
        exact HH.out.below hbl
end Go.Proofs.YtnjeoeekidnffaaGreat
