/- Stage 14: the chapter's example. -/
import Derived.Test.YtnjeoeekidnffaaGreatNk
namespace Go.Proofs.YtnjeoeekidnffaaGreat
open Go.RowKit SmWord Go.Maps
set_option maxRecDepth 100000

/-- A slot has x. -/
def Val (G : Gs) (A k x : Nat) : Prop := ∃ b s, G.ab A = some b ∧ G.st (G.en A).sp = some s ∧ stoV s.so s.g k = x
section
variable {fa : Nat → Acc} {fk : Nat → Bool} {G G' : Gs} {U U' : List (UOp × Array Value)} {A k x y v : Nat}
theorem Val.ahead (h : Val G A k x) (ha : Ahead fa fk G G') : Val G' A k x := by
  obtain ⟨b, s, h1, h2, h3⟩ := h
  obtain ⟨k1, k2⟩ := ha.old A b h1
  obtain ⟨s', k3, k4, k5⟩ := ha.sto _ s h2
  exact ⟨b, s', k1, by rw [k2]; exact k3, by rw [k4, k5, h3]⟩
theorem Val.same (h : Val G A k x) (h' : Val G A k y) : x = y := by
  obtain ⟨b, s, -, h2, h3⟩ := h
  obtain ⟨b', s', -, k2, k3⟩ := h'
  rw [h2] at k2
  injection k2 with k2
  rw [← h3, ← k3, k2]
theorem Val.of_new (ha : Ahead fa fk G G') (h0 : G.ab A = none) {b : Nat} (hb : G'.ab A = some b) (hs : (askA fa fk A).so = []) : Val G' A k 0 := by
  obtain ⟨hf, -⟩ := ha.new A b h0 hb
  obtain ⟨s, h1, h2, h3⟩ := hf.st
  refine ⟨b, s, hb, h1, ?_⟩
  rw [h2, hs]
  unfold stoV
  rw [h3]
  rfl
theorem SetIs.val (h : SetIs fa fk G U A k v G' U') : Val G' A k v := by
  cases h with
  | same h hab hs he => exact ⟨_, _, hab, hs, he⟩
  | @set G1 ap s uv cap h hab hs he =>
    refine ⟨ap, { s with g := setS s.so s.g k v, n := s.n + 1 }, hab, ?_, ?_⟩
    · show (if (G1.en A).sp = (G1.en A).sp then (G1.st (G1.en A).sp).map _ else _) = _
      rw [if_pos rfl, hs]
      rfl
    · show stoV s.so (setS s.so s.g k v) k = v
      rw [setS_val, if_pos rfl]
/-- What stood in a slot ahead is in it when the newest is undone. -/
theorem SetIs.undone (h : SetIs fa fk G U A k v G' U') (hv : ∀ G1 b, Ahead fa fk G G1 → G1.ab A = some b → Val G1 A k x) (hne : x ≠ v) : ∃ op cap, U' = (op, cap) :: U ∧ Val (act G' op) A k x := by
  cases h with
  | same h hab hs he => exact absurd ((hv _ _ h hab).same ⟨_, _, hab, hs, he⟩) hne
  | @set G1 ap s uv cap h hab hs he =>
    have hx : stoV s.so s.g k = x := Val.same ⟨_, _, hab, hs, rfl⟩ (hv _ _ h hab)
    refine ⟨_, cap, rfl, ?_⟩
    obtain ⟨s1, h1⟩ : ∃ s1 : Sto, ({ s with g := setS s.so s.g k v, n := s.n + 1 } : Sto) = s1 := ⟨_, rfl⟩
    have e1 : (undG (setP G1 (G1.en A).sp fun s => { s with g := setS s.so s.g k v, n := s.n + 1 }) uv).st (G1.en A).sp = some s1 := by
      show (if (G1.en A).sp = (G1.en A).sp then (G1.st (G1.en A).sp).map _ else _) = some s1
      rw [if_pos rfl, hs, ← h1]
      rfl
    have e2 : act (undG (setP G1 (G1.en A).sp fun s => { s with g := setS s.so s.g k v, n := s.n + 1 }) uv) (.slot (G1.en A).sp k (stoV s.so s.g k)) = setP (undG (setP G1 (G1.en A).sp fun s => { s with g := setS s.so s.g k v, n := s.n + 1 }) uv) (G1.en A).sp fun _ => { s1 with g := setS s1.so s1.g k (stoV s.so s.g k), n := s1.n + 1 } := by
      unfold act
      simp only [e1]
    rw [e2]
    refine ⟨ap, { s1 with g := setS s1.so s1.g k (stoV s.so s.g k), n := s1.n + 1 }, hab, ?_, ?_⟩
    · exact (if_pos rfl).trans (congrArg (Option.map _) e1)
    · show stoV s1.so (setS s1.so s1.g k (stoV s.so s.g k)) k = x
      rw [setS_val, if_pos rfl, hx]
end
/-- The world that has nothing. -/
theorem nil_world {Z : Hp} {mb : Nat} (h : ∀ u, Sub Z (hp u) → ListAt Z u mb 0 (fun _ => none)) : WorldOk Z (.iface 90 (.map (some mb))) (fun A => (bareAV A).a) (fun _ => true) := fun A hA w hw =>
  answer_list Z _ _ A _ true w (Lib.hid fun w' hb => list_walk A w' (h w' (hw.trans (hp_below hb))) hA (hw.trans (hp_below hb))) (list_ahead _) (list_method mb)
theorem nil_right : WorldR (fun A => (bareAV A).a) (fun _ => true) := ⟨fun _ _ => rfl, fun _ _ => ris_nil⟩
theorem aNh : aN (2 ^ 152) = #[Value.int .u8 1, Value.int .u8 0, Value.int .u8 0, Value.int .u8 0, Value.int .u8 0, Value.int .u8 0, Value.int .u8 0, Value.int .u8 0, Value.int .u8 0, Value.int .u8 0, Value.int .u8 0, Value.int .u8 0, Value.int .u8 0, Value.int .u8 0, Value.int .u8 0, Value.int .u8 0, Value.int .u8 0, Value.int .u8 0, Value.int .u8 0, Value.int .u8 0] := by kernel_rfl
theorem wa1 : wa 1 = #[Value.int .u64 1, Value.int .u64 0, Value.int .u64 0, Value.int .u64 0] := by kernel_rfl
theorem wa5 : wa 5 = #[Value.int .u64 5, Value.int .u64 0, Value.int .u64 0, Value.int .u64 0] := by kernel_rfl
theorem wa7 : wa 7 = #[Value.int .u64 7, Value.int .u64 0, Value.int .u64 0, Value.int .u64 0] := by kernel_rfl
theorem StAt.mark {Z : Hp} {base K : Nat} {w : World} {G : Gs} {U : List (UOp × Array Value)} (h : StAt Z base w G U K) : ∃ a c, w.cell? ⟨G.sb, 25, none⟩ = some (.slice a U.length c) := by
  have h1 : w.cell? ⟨G.sb, 25, none⟩ = some G.uv := blk_cell h.core.stc (by simpa using stc_25 G)
  rcases h.und.2 with ⟨e, e0⟩ | ⟨ub, cap, row, e, _⟩
  · exact ⟨none, 0, by rw [h1, e, e0]⟩
  · exact ⟨_, cap, by rw [h1, e]⟩
theorem act_wv (G : Gs) (op : UOp) : (act G op).wv = G.wv := by cases op <;> first | rfl | (unfold act; simp only; split <;> rfl)
set_option maxHeartbeats 4000000 in
theorem fixed_walk (w : World) : Calls Tryz.prog 9 #[] w fun e w' => e = .returned (.bool true) ∧ Below w.heap.size w w' := by
  have KN := Lib.hid (new_nil w)
  have ah := aNh
  have w1' := wa1
  have w5' := wa5
  have w7' := wa7
  have heq := run_eq_wa (m := 5) (n := 5) (by decide) (by decide)
  rw [wa5] at heq
  go_enter Tryz.func9, Tryz.ntmps9
  go_upto_region 4 with (go_at_call 10; refine KN.out.mono ?_; rintro e w1 ⟨Z, sb, am, mb, rfl, hmb, h1, hl, b1⟩; unfold ptr)
  have B1 := Lib.hid b1
  have GE1 := Lib.hid fun b (hb : ((gs0 sb am (.iface 90 (.map (some mb)))).own b).isSome = true) => show w.heap.size ≤ b from by
    obtain ⟨r, hr⟩ := Option.isSome_iff_exists.1 hb
    exact h1.core.ge b r hr
  have HW := Lib.hid (nil_world hl)
  have HR := Lib.hid nil_right
  have KS1 := set_state (K := 0) h1 HW.out HR.out (2 ^ 152) 1 5 (by decide) (by decide) (by decide) (by decide)
  unfold wd ptr at KS1
  rw [aNh, wa1, wa5, show (gs0 sb am (.iface 90 (.map (some mb)))).sb = sb from rfl] at KS1
  have KS1' := Lib.hid KS1
  clear KS1 h1 hl KN
  go_upto_region 5 with (go_at_call 22; refine KS1'.out.mono ?_; rintro e w2 ⟨rfl, Z1, G1, U1, h1, z1, s1, hsb, hwv, t1⟩)
  have B2 := Lib.hid (B1.out.trans (t1.below B1.out.size GE1.out))
  have GE2 := Lib.hid fun b (hb : (G1.own b).isSome = true) => show w.heap.size ≤ b from by
    obtain ⟨r, hr⟩ := Option.isSome_iff_exists.1 hb
    exact h1.core.ge b r hr
  obtain ⟨op1, cap1, rfl, -⟩ := s1.undone (x := 0) (fun Ga b ha hb => Val.of_new ha rfl hb rfl) (by decide)
  have KM : Calls Tryz.prog 17 #[.pointer (some ⟨sb, 0, none⟩)] w2 fun e w' => e = .returned (.int .i64 1) ∧ w' = w2 := by
    obtain ⟨a, c, hc⟩ := h1.mark
    rw [hsb] at hc
    exact mark_walk (n := 1) hc
  have KS2 := set_state (K := 3) h1 (by rw [hwv]; exact HW.out.sub z1) HR.out (2 ^ 152) 1 7 (by decide) (by decide) (by decide) (by decide)
  unfold wd ptr at KS2
  rw [aNh, wa1, wa7, hsb] at KS2
  have KMM := Lib.hid KM
  have KS2' := Lib.hid KS2
  have S1 := Lib.hid s1
  have HSB := Lib.hid hsb
  have HWV := Lib.hid hwv
  have Z11 := Lib.hid z1
  clear KM KS2 s1 hsb hwv z1 h1 KS1'
  go_upto_region 7 with (first
    | (go_at_call 17; refine KMM.out.mono ?_; rintro e w3 ⟨rfl, rfl⟩)
    | (go_at_call 22; refine KS2'.out.mono ?_; rintro e w4 ⟨rfl, Z2, G2, U2, h2, z2, s2, hsb2, hwv2, t2⟩))
  have B4 := Lib.hid (B2.out.trans (t2.below B2.out.size GE2.out))
  have GE4 := Lib.hid fun b (hb : (G2.own b).isSome = true) => show w.heap.size ≤ b from by
    obtain ⟨r, hr⟩ := Option.isSome_iff_exists.1 hb
    exact h2.core.ge b r hr
  obtain ⟨op2, cap2, rfl, hv2⟩ := s2.undone (x := 5) (fun Gb b ha hb => S1.out.val.ahead ha) (by decide)
  have KB := back_state (mark := 1) h2 (by decide) (by decide : 1 < 2)
  have hsb3 : G2.sb = sb := hsb2
  unfold ptr at KB
  rw [hsb3] at KB
  have KB' : Hid (Calls Tryz.prog 16 #[.pointer (some ⟨sb, 0, none⟩), .int .i64 1] w4 fun e w' => e = .returned (.tuple #[]) ∧ ∃ uv, StAt Z2 w.heap.size w' (undG (act G2 op2) uv) [(op1, cap1)] 6 ∧ Below w.heap.size w w') := Lib.hid (KB.mono fun e w' ⟨he, uv, h, t⟩ => ⟨he, uv, h, B4.out.trans (t.below B4.out.size GE4.out)⟩)
  have HV2 := Lib.hid hv2
  have HWV2 := Lib.hid (show G2.wv = .iface 90 (.map (some mb)) from hwv2.trans HWV.out)
  have HSB3 := Lib.hid hsb3
  have Z22 := Lib.hid (Z11.out.trans z2)
  clear KB hv2 hsb3 hwv2 hsb2 h2 s2 z2 KS2' KMM
  go_upto_region 8 with (go_at_call 16; refine KB'.out.mono ?_; rintro e w5 ⟨rfl, uv, h3, b5⟩)
  have B5 := Lib.hid b5
  have GE5 := Lib.hid fun b (hb : ((undG (act G2 op2) uv).own b).isSome = true) => show w.heap.size ≤ b from by
    obtain ⟨r, hr⟩ := Option.isSome_iff_exists.1 hb
    exact h3.core.ge b r hr
  have KL := load_state (K := 6) h3 (by rw [show (undG (act G2 op2) uv).wv = (act G2 op2).wv from rfl, act_wv, HWV2.out]; exact HW.out.sub Z22.out) HR.out (2 ^ 152) 1 (by decide) (by decide) (by decide)
  have KL' : Hid (Calls Tryz.prog 28 #[.pointer (some ⟨sb, 0, none⟩), .agg (aN (2 ^ 152)), wd 1] w5 fun e w' => e = .returned (wd 5) ∧ Below w.heap.size w w') := by
    rw [show (undG (act G2 op2) uv).sb = (act G2 op2).sb from rfl, act_sb, HSB3.out] at KL
    refine Lib.hid (KL.mono fun e w' ⟨Z', G', ap, s, he, hs, hat⟩ => ?_)
    refine ⟨?_, B5.out.trans (hat.tch.below B5.out.size GE5.out)⟩
    rw [he, Val.same ⟨ap, s, hat.ab, hs, rfl⟩ ((HV2.out.ahead (ahead_und (fun A => (bareAV A).a) (fun _ => true) _ uv)).ahead hat.ah)]
  unfold wd at KL'
  rw [aNh, wa1, wa5] at KL'
  clear KL h3 KB'
  go_wp2_with (go_at_call 28; refine KL'.out.mono ?_; rintro e w6 ⟨rfl, b6⟩)
  go_ret
  exact ⟨rfl, b6⟩
end Go.Proofs.YtnjeoeekidnffaaGreat
/- Stage 14: the document's state; its Base. -/
namespace Go.Proofs.YtnjeoeekidnffaaGreat
open Go.RowKit SmWord Go.Maps
set_option maxRecDepth 100000

theorem equal_at {P : Program} {t e : TypeId} {n : Nat} {k k' : IntKind} (d : Nat) (hu : P.underlying t = some (.array n e)) (he : P.underlying e = some (.int k')) (hc : P.cellsOf e = 1)
    (xs ys : Array Value) (hx : xs.size = n) (hy : ys.size = n) (h : ∀ i, i < n → ∃ a b : Int, xs[i]? = some (.int k a) ∧ ys[i]? = some (.int k b)) (w : World) :
    ∃ r : Bool, (Op.equalIn (d + 2) t (.agg xs) (.agg ys)).run P w = .ok r w ∧ (r = true ↔ xs = ys) := by
  obtain ⟨i, hi⟩ := info_of_underlying he
  obtain ⟨r, hr, hiff⟩ := eqItems_ints he d xs ys w (List.range n) (fun j hj => h j (List.mem_range.1 hj))
  refine ⟨r, by rw [show d + 2 = d + 1 + 1 from rfl, run_equalIn_array w (d + 1) xs ys hu hi, hc]; exact hr, hiff.trans ⟨fun H => ?_, fun H => by simp [H]⟩⟩
  apply Array.ext_getElem?
  intro j
  by_cases hj : j < n
  · exact H j (List.mem_range.2 hj)
  · rw [Array.getElem?_eq_none (by omega), Array.getElem?_eq_none (by omega)]
theorem eq_ad (A C : Nat) (hA : A < 2 ^ 160) (hC : C < 2 ^ 160) (w : World) : (Op.equalIn 10000 41 (.agg (aN A)) (.agg (aN C))).run Tryz.prog w = .ok (decide (A = C)) w := by
  obtain ⟨r, hr, hiff⟩ := equal_at 9998 (k := .u8) Tryz.underlying41 Tryz.underlying5 cells8 (aN A) (aN C) (aN_size A) (aN_size C) (fun i hi =>
    ⟨_, _, arr_get .u8 (n := 20) (fun i => ((ab A i : Nat) : Int)) hi, arr_get .u8 (n := 20) (fun i => ((ab C i : Nat) : Int)) hi⟩) w
  rw [hr]
  by_cases e : A = C
  · subst e
    rw [hiff.2 rfl]
    simp
  · cases r
    · simp [e]
    · exact absurd (aN_inj hA hC (hiff.1 rfl)) e
theorem acs_rng {Z : Hp} {b o : Nat} {x : AV} (h : rng Z b o (acs x)) : rng Z b o (aN x.a.ad).toList := by
  have := h.part 0 (aN x.a.ad).toList (acs_ad x)
  rwa [Nat.add_zero] at this
/-- The document's state: eight cells. -/
structure Dst where
  w : Value
  l : Value
  wm : Value
  sl : Value
  rf : Int
  lg : Value
  tr : Bool
  ps : Value
def dC (d : Dst) : Array Value := #[d.w, d.l, d.wm, d.sl, .int .i64 d.rf, d.lg, .bool d.tr, d.ps]
/-- An account of the world, as the document looks it up. -/
def baseV (W : List AV) (A : Nat) : AV := (W.find? fun x => x.a.ad == A).getD (bareAV A)
theorem baseV_at {W : List AV} {A k : Nat} {x : AV} (ho : ∀ y ∈ W.take k, y.a.ad ≠ A) (hx : W[k]? = some x) (hA : x.a.ad = A) : baseV W A = x := by
  have hl : W = W.take k ++ x :: W.drop (k + 1) := by
    have h1 := List.take_append_drop k W
    have hk : k < W.length := (List.getElem?_eq_some_iff.1 hx).1
    rw [List.drop_eq_getElem_cons hk, (List.getElem?_eq_some_iff.1 hx).2] at h1
    exact h1.symm
  unfold baseV
  rw [hl, List.find?_append, List.find?_eq_none.2 (fun y hy => by simpa using ho y hy), List.find?_cons_of_pos (by simpa using hA)]
  rfl
theorem baseV_none {W : List AV} {A : Nat} (ho : ∀ y ∈ W, y.a.ad ≠ A) : baseV W A = bareAV A := by
  unfold baseV
  rw [List.find?_eq_none.2 (fun y hy => by simpa using ho y hy)]
  rfl
theorem bboxes (w : World) (d : Dst) (A : Nat) : ∃ W, ((w.alloc (.cells (dC d) 37)).alloc (.cells (aN A) 41)).alloc (.cells (acs noneAV).toArray 69) = W ∧ W.heap[w.heap.size]? = some (.cells (dC d) 37) ∧ W.heap[w.heap.size + 1]? = some (.cells (aN A) 41) ∧ W.heap[w.heap.size + 2]? = some (.cells (acs noneAV).toArray 69) ∧ Below w.heap.size w W ∧ W.heap.size = w.heap.size + 3 := by
  obtain ⟨w1, h1⟩ : ∃ w1, w.alloc (.cells (dC d) 37) = w1 := ⟨_, rfl⟩
  have s1 : w1.heap.size = w.heap.size + 1 := h1 ▸ by simp
  have g1 : w1.heap[w.heap.size]? = some (.cells (dC d) 37) := h1 ▸ heap_alloc_new _ _
  have b1 : Below w.heap.size w w1 := h1 ▸ (Below.refl _ _).alloc (Nat.le_refl _) _
  obtain ⟨W, hW, f0, f1, bW, sW⟩ := aboxes w1 A
  rw [s1] at f0 f1
  exact ⟨W, by rw [h1]; exact hW, stay bW g1, f0, f1, b1.trans (bW.mono b1.size), by omega⟩
set_option maxHeartbeats 4000000 in
theorem base_walk {Z : Hp} {W : List AV} (d : Dst) (A : Nat) (w : World) (h : AccsZ Z d.w W) (hz : Sub Z (hp w)) (hA : A < 2 ^ 160) (hl : W.length ≤ 1000000) :
    Calls Tryz.prog 91 #[.agg (dC d), .agg (aN A)] w fun e w' => e = .returned (aval (baseV W A)) ∧ Below w.heap.size w w' := by
  obtain ⟨P, c, hv, hn, hc, hP, hcells⟩ := h.row.one (fun x _ => acs_len x)
  have HX := Lib.hid h.each
  have HAd := Lib.hid hA
  clear hA
  have HC : Hid (0 < W.length → ∃ b off, P = some ⟨b, off, none⟩ ∧ ∀ i x, W[i]? = some x → rng (hp w) b (off + i * 27) (acs x)) := Lib.hid fun hn => by
    obtain ⟨b, off, e, _, hi⟩ := hcells hn
    exact ⟨b, off, e, fun i x hx => (hi i x hx).sub hz⟩
  generalize hN : W.length = n at *
  have HN := Lib.hid hN
  clear hcells h hN hz
  have hs := aN_size A
  obtain ⟨V, hV, f0, f1, f2, bW, sW⟩ := bboxes w d A
  have HB := Lib.hid bW
  have F1 := Lib.hid f1
  have F2 := Lib.hid f2
  have SV := Lib.hid sW
  have p1 : V.cell? ⟨w.heap.size, 0, none⟩ = some (.slice P n c) := blk_cell f0 (by rw [← hv]; rfl)
  have F0 := Lib.hid f0
  have HV := Lib.hid hv
  have hza := zeroAcc
  clear f0 f1 f2 bW sW hv
  unfold dC at hV ⊢
  go_enter Tryz.func91, Tryz.ntmps91
  go_upto_region 1 with (refine wpList_alloc_row rfl 69 rfl _ zeroAcc ?_)
  try rw [hV]
  clear hV hza
  go_wp2_with fail
  go_loopw [9] (fun i wr => ∃ k : Nat, k ≤ n ∧ i = .int .i64 k ∧ Hid (∀ x ∈ W.take k, x.a.ad ≠ A) ∧ Hid (Below V.heap.size V wr)) (fun i _ => n - (intOf i).toNat)
  case atStart => exact ⟨0, Nat.zero_le _, rfl, Lib.hid (fun x hx => by simp at hx), Lib.hid (Below.refl _ _)⟩
  case round =>
    obtain ⟨k, hk, rfl, HO, HW⟩ := hrel
    have bwr : Below w.heap.size w wr := HB.out.trans (HW.out.mono HB.out.size)
    have BW := Lib.hid bwr
    by_cases hlt : k < n
    · obtain ⟨b, off, rfl, hi⟩ := HC.out (by omega)
      obtain ⟨x, hx⟩ : ∃ x, W[k]? = some x := ⟨W[k]'(by rw [HN.out]; exact hlt), by simp⟩
      have HXx := Lib.hid (HX.out x (List.mem_of_getElem? hx))
      have HRg := Lib.hid (hi k _ hx)
      have HXg := Lib.hid hx
      have r0 : ∀ g : Ext wr, g.on.rangeAt b (off + k * 27) (aN x.a.ad).toList := fun g => (acs_rng (HRg.out.sub (hp_below (bwr.trans (g.below.mono bwr.size))))).at
      have r1 := fun g : Ext wr => adblk (g.block (stay HW.out F1.out))
      have q1 := fun g : Ext wr => (show g.on.cell? ⟨w.heap.size, 0, none⟩ = some (.slice (some ⟨b, off, none⟩) n c) from blk_cell (g.block (stay HW.out F0.out)) (by rw [← HV.out]; rfl))
      have eq := eq_ad x.a.ad A HXx.out.ad HAd.out
      clear hi hx bwr
      go_upto_region 4 with fail
      refine region_ext (by kernel_rfl) (by kernel_rfl) ?_
      repeat (first
        | (go_big_quiet_want; refine quiet_load_mid 41 _ rfl b (off + k * 27) (aN x.a.ad).toList rfl (fun w2 hw2 => by obtain ⟨g1, rfl⟩ := hw2; exact r0 g1) Tryz.underlying41 rfl (infoAd _) ?_; simp only [Act.put, List.setIfInBounds_toArray, List.set_cons_succ, List.set_cons_zero, Array.toArray_toList]; go_big_quiet_on)
        | (go_big_quiet_want; refine quiet_load_mid 41 _ rfl (w.heap.size + 1) 0 (aN A).toList rfl (fun w2 hw2 => by obtain ⟨g1, rfl⟩ := hw2; exact r1 g1) Tryz.underlying41 rfl (infoAd _) ?_; simp only [Act.put, List.setIfInBounds_toArray, List.set_cons_succ, List.set_cons_zero, Array.toArray_toList]; go_big_quiet_on)
        | go_big_quiet_step (fail))
      refine wpQuiet_nil ?_
      rintro w' ⟨gg, rfl⟩
      have HWg := Lib.hid (HW.out.trans (gg.below.mono HW.out.size))
      have HBg := Lib.hid (BW.out.trans (gg.below.mono BW.out.size))
      clear r0 r1 eq q1
      generalize gg.on = wg at *
      by_cases e : x.a.ad = A
      · rw [decide_eq_true e]
        have HE := Lib.hid e
        have F2g := Lib.hid (stay HWg.out F2.out)
        have q1 : wg.cell? ⟨w.heap.size, 0, none⟩ = some (.slice (some ⟨b, off, none⟩) n c) := blk_cell (stay HWg.out F0.out) (by rw [← HV.out]; rfl)
        have rx := (HRg.out.sub (hp_below HBg.out)).at
        have one := HXx.out.ones
        clear e
        go_wp2_with (first
          | (refine wpList_load_mid rfl 69 _ rfl b (off + k * 27) rfl (acs x) _ rx Tryz.underlying69 rfl (infoAcs _) ?_)
          | (refine wpList_store_row rfl 69 _ _ rfl (w.heap.size + 2) _ (acs x).toArray rfl rfl F2g.out (by simpa using infoAcs _) (by simp [acs_len]) one ?_))
        refine bodyPost_ret (v := aval x) (results_cell_row rfl _ _ _ 69 _ (0, 0) _ rfl (blk_row F2g.out) Tryz.underlying69 rfl (by simpa using infoAcs _)) rfl ⟨by rw [baseV_at HO.out HXg.out HE.out], below_setRow HBg.out (by omega) _⟩
      · rw [decide_eq_false e]
        have HE := Lib.hid e
        clear e
        go_wp2_with fail
        exact ⟨⟨k + 1, by omega, by go_num, Lib.hid (fun y hy => by
          rw [List.take_add_one, HXg.out] at hy
          rcases List.mem_append.1 hy with hy | hy
          · exact HO.out y hy
          · simp at hy
            subst hy
            exact HE.out), HWg⟩, by simp [intOf]; omega⟩
    · obtain rfl : k = n := by omega
      have F1r := adblk (stay HW.out F1.out)
      have F2r := Lib.hid (stay HW.out F2.out)
      have oneb := (bareZ (fun _ => none) HAd.out).ones
      go_wp2_with (first
        | (refine wpList_load_mid rfl 41 _ rfl (w.heap.size + 1) 0 rfl (aN A).toList _ F1r Tryz.underlying41 rfl (infoAd _) ?_; simp only [Array.toArray_toList])
        | (refine wpList_buildAd rfl _ rfl A rfl ?_)
        | (refine wpList_store_row rfl 69 _ _ rfl (w.heap.size + 2) _ (acs (bareAV A)).toArray rfl rfl F2r.out (by simpa using infoAcs _) (by simp [acs_len]) oneb ?_))
      refine bodyPost_ret (v := aval (bareAV A)) (results_cell_row rfl _ _ _ 69 _ (0, 0) _ rfl (blk_row F2r.out) Tryz.underlying69 rfl (by simpa using infoAcs _)) rfl ⟨by rw [baseV_none fun t ht => HO.out t (by rw [List.take_of_length_le (by rw [HN.out]; exact Nat.le_refl _)]; exact ht)], below_setRow BW.out (by omega) _⟩
end Go.Proofs.YtnjeoeekidnffaaGreat
/- Stage 14: the document's At. -/
namespace Go.Proofs.YtnjeoeekidnffaaGreat
open Go.RowKit SmWord Go.Maps
set_option maxRecDepth 100000

/-- An entry of the document's: an account; whether it is fresh, destroyed. -/
structure EnV where
  x : AV
  fr : Bool
  de : Bool
def enC (e : EnV) : List Value := acs e.x ++ [.bool e.fr, .bool e.de]
theorem enC_len (e : EnV) : (enC e).length = 29 := by simp [enC, acs_len]
def eval' (e : EnV) : Value := .agg (enC e).toArray
structure EnsZ (Z : Hp) (v : Value) (l : List EnV) : Prop where
  row : RowZ Z v l.length 29 (l.flatMap enC)
  each : ∀ e ∈ l, AccZ Z e.x
theorem enC_rng {Z : Hp} {b o : Nat} {e : EnV} (h : rng Z b o (enC e)) : rng Z b o (aN e.x.a.ad).toList := by
  have := h.part 0 (acs e.x) (fun j v hj => by
    unfold enC
    rw [Nat.zero_add, List.getElem?_append_left (List.getElem?_eq_some_iff.1 hj).1]
    exact hj)
  rw [Nat.add_zero] at this
  exact acs_rng this
theorem enC_ones {Z : Hp} {x : EnV} (h : AccZ Z x.x) : (enC x).toArray.all (·.oneCell') = true := by
  have := h.ones
  unfold enC
  simp only [List.all_toArray, List.all_append] at this ⊢
  rw [this]
  rfl
theorem infoEn0 : (Tryz.prog.info? 109).map (·.size) = some 29 := by kernel_rfl
theorem infoEn (e : EnV) : (Tryz.prog.info? 109).map (·.size) = some (enC e).length := by rw [enC_len]; exact infoEn0
theorem infoD {d : Dst} : (Tryz.prog.info? 37).map (·.size) = some (dC d).toList.length := by
  have : (Tryz.prog.info? 37).map (·.size) = some 8 := by kernel_rfl
  rw [this]
  rfl
theorem zeroEn (w : World) : (zeroValue 109).run Tryz.prog w = .ok (.agg (enC ⟨noneAV, false, false⟩).toArray) w := by kernel_rfl
theorem run_build29 (x0 x1 x2 x3 x4 x5 x6 x7 x8 x9 x10 x11 x12 x13 x14 x15 x16 x17 x18 x19 x20 x21 x22 x23 x24 x25 x26 : Value) (w : World) : (Instr.build 109 #[(0, .agg #[x0, x1, x2, x3, x4, x5, x6, x7, x8, x9, x10, x11, x12, x13, x14, x15, x16, x17, x18, x19, x20, x21, x22, x23, x24, x25, x26])]).run Tryz.prog w = .ok (.agg #[x0, x1, x2, x3, x4, x5, x6, x7, x8, x9, x10, x11, x12, x13, x14, x15, x16, x17, x18, x19, x20, x21, x22, x23, x24, x25, x26, .bool false, .bool false]) w := by kernel_rfl
theorem run_build_en (x : AV) (w : World) : (Instr.build 109 #[(0, aval x)]).run Tryz.prog w = .ok (.agg (enC ⟨x, false, false⟩).toArray) w := by
  have h27 : (acs x).toArray.size = 27 := by simp [acs_len]
  have e2 : (enC ⟨x, false, false⟩).toArray = (acs x).toArray ++ #[.bool false, .bool false] := by
    unfold enC
    simp
  rw [e2]
  unfold aval
  obtain ⟨x0, x1, x2, x3, x4, x5, x6, x7, x8, x9, x10, x11, x12, x13, x14, x15, x16, x17, x18, x19, x20, x21, x22, x23, x24, x25, x26, e⟩ := list27 h27
  rw [e]
  exact run_build29 _ _ _ _ _ _ _ _ _ _ _ _ _ _ _ _ _ _ _ _ _ _ _ _ _ _ _ w
theorem wpList_build_en {ops : Array Oper} {rest : List Oper} {o : Oper} {a : Act} {w : World} {Q : Exit → Act → World → Prop} (hg : o.guard = none) (x : Operand) (ho : o.op = .build 109 #[(0, x)]) (y : AV) (hx : a.eval x = aval y) (h : wpList Tryz.prog ops Q rest (a.put o.dst (.agg (enC ⟨y, false, false⟩).toArray)) w) : wpList Tryz.prog ops Q (o :: rest) a w := by
  refine wpList_plain hg fun K hK => ?_
  have hr := run_build_en y w
  unfold Oper.wp
  simp [execOp, ho, hx, hr, Result.andThen]
  exact hK _ _ h
/-- An account's entry. -/
def atV (L : List EnV) (W : List AV) (A : Nat) : EnV := (L.find? fun e => e.x.a.ad == A).getD ⟨baseV W A, false, false⟩
theorem atV_at {W : List EnV} {V0 : List AV} {A k : Nat} {x : EnV} (ho : ∀ y ∈ W.take k, y.x.a.ad ≠ A) (hx : W[k]? = some x) (hA : x.x.a.ad = A) : atV W V0 A = x := by
  have hl : W = W.take k ++ x :: W.drop (k + 1) := by
    have h1 := List.take_append_drop k W
    have hk : k < W.length := (List.getElem?_eq_some_iff.1 hx).1
    rw [List.drop_eq_getElem_cons hk, (List.getElem?_eq_some_iff.1 hx).2] at h1
    exact h1.symm
  unfold atV
  rw [hl, List.find?_append, List.find?_eq_none.2 (fun y hy => by simpa using ho y hy), List.find?_cons_of_pos (by simpa using hA)]
  rfl
theorem atV_none {W : List EnV} {V0 : List AV} {A : Nat} (ho : ∀ y ∈ W, y.x.a.ad ≠ A) : atV W V0 A = ⟨baseV V0 A, false, false⟩ := by
  unfold atV
  rw [List.find?_eq_none.2 (fun y hy => by simpa using ho y hy)]
  rfl
theorem baseV_z {Z : Hp} {v : Value} {W : List AV} {A : Nat} (h : AccsZ Z v W) (hA : A < 2 ^ 160) : AccZ Z (baseV W A) := by
  unfold baseV
  cases e : W.find? fun x => x.a.ad == A with
  | none => exact bareZ Z hA
  | some x => exact h.each x (List.mem_of_find?_eq_some e)
theorem atV_z {Z : Hp} {v v' : Value} {L : List EnV} {W : List AV} {A : Nat} (h : AccsZ Z v W) (h' : EnsZ Z v' L) (hA : A < 2 ^ 160) : AccZ Z (atV L W A).x := by
  unfold atV
  cases e : L.find? fun e => e.x.a.ad == A with
  | none => exact baseV_z h hA
  | some x => exact h'.each x (List.mem_of_find?_eq_some e)
theorem eboxes (w : World) (d : Dst) (A : Nat) : ∃ W, ((w.alloc (.cells (dC d) 37)).alloc (.cells (aN A) 41)).alloc (.cells (enC ⟨noneAV, false, false⟩).toArray 109) = W ∧ W.heap[w.heap.size]? = some (.cells (dC d) 37) ∧ W.heap[w.heap.size + 1]? = some (.cells (aN A) 41) ∧ W.heap[w.heap.size + 2]? = some (.cells (enC ⟨noneAV, false, false⟩).toArray 109) ∧ Below w.heap.size w W ∧ W.heap.size = w.heap.size + 3 := by
  obtain ⟨w1, h1⟩ : ∃ w1, w.alloc (.cells (dC d) 37) = w1 := ⟨_, rfl⟩
  have s1 : w1.heap.size = w.heap.size + 1 := h1 ▸ by simp
  have g1 : w1.heap[w.heap.size]? = some (.cells (dC d) 37) := h1 ▸ heap_alloc_new _ _
  have b1 : Below w.heap.size w w1 := h1 ▸ (Below.refl _ _).alloc (Nat.le_refl _) _
  obtain ⟨w2, h2⟩ : ∃ w2, w1.alloc (.cells (aN A) 41) = w2 := ⟨_, rfl⟩
  have s2 : w2.heap.size = w.heap.size + 2 := h2 ▸ by simp [s1]
  have g2 : w2.heap[w.heap.size + 1]? = some (.cells (aN A) 41) := by rw [← s1]; exact h2 ▸ heap_alloc_new _ _
  have b2 : Below w1.heap.size w1 w2 := h2 ▸ (Below.refl _ _).alloc (Nat.le_refl _) _
  obtain ⟨w3, h3⟩ : ∃ w3, w2.alloc (.cells (enC ⟨noneAV, false, false⟩).toArray 109) = w3 := ⟨_, rfl⟩
  have g3 : w3.heap[w.heap.size + 2]? = some (.cells (enC ⟨noneAV, false, false⟩).toArray 109) := by rw [← s2]; exact h3 ▸ heap_alloc_new _ _
  have b3 : Below w2.heap.size w2 w3 := h3 ▸ (Below.refl _ _).alloc (Nat.le_refl _) _
  exact ⟨w3, by rw [h1, h2, h3], stay b3 (stay b2 g1), stay b3 g2, g3, (b1.trans (b2.mono b1.size)).trans (b3.mono (by omega)), h3 ▸ by simp [s2]⟩
set_option maxHeartbeats 4000000 in
theorem dat_walk {Z : Hp} {V0 : List AV} {W : List EnV} (d : Dst) (A : Nat) (w : World) (hb : AccsZ Z d.w V0) (h : EnsZ Z d.l W) (hz : Sub Z (hp w)) (hA : A < 2 ^ 160) (hl : W.length ≤ 1000000) (hl0 : V0.length ≤ 1000000) :
    Calls Tryz.prog 56 #[.agg (dC d), .agg (aN A)] w fun e w' => e = .returned (eval' (atV W V0 A)) ∧ Below w.heap.size w w' := by
  obtain ⟨P, c, hv, hn, hc, hP, hcells⟩ := h.row.one (fun x _ => enC_len x)
  have HX := Lib.hid h.each
  have HAd := Lib.hid hA
  clear hA
  have HC : Hid (0 < W.length → ∃ b off, P = some ⟨b, off, none⟩ ∧ ∀ i x, W[i]? = some x → rng (hp w) b (off + i * 29) (enC x)) := Lib.hid fun hn => by
    obtain ⟨b, off, e, _, hi⟩ := hcells hn
    exact ⟨b, off, e, fun i x hx => (hi i x hx).sub hz⟩
  generalize hN : W.length = n at *
  have HN := Lib.hid hN
  clear hcells h hN
  have hs := aN_size A
  obtain ⟨V, hV, f0, f1, f2, bW, sW⟩ := eboxes w d A
  have HB := Lib.hid bW
  have F1 := Lib.hid f1
  have F2 := Lib.hid f2
  have SV := Lib.hid sW
  have p1 : V.cell? ⟨w.heap.size, 1, none⟩ = some (.slice P n c) := blk_cell f0 (by rw [← hv]; rfl)
  have F0 := Lib.hid f0
  have HV := Lib.hid hv
  have hza := zeroEn
  have KB := Lib.hid fun w1 (b1 : Below w.heap.size w w1) => base_walk d A w1 hb (hz.trans (hp_below b1)) HAd.out hl0
  have ONEB := Lib.hid (enC_ones (x := ⟨baseV V0 A, false, false⟩) (baseV_z hb HAd.out))
  clear hb
  clear f0 f1 f2 bW sW hv hz hl0
  unfold dC at hV ⊢
  go_enter Tryz.func56, Tryz.ntmps56
  go_upto_region 1 with (refine wpList_alloc_row rfl 109 rfl _ zeroEn ?_)
  try rw [hV]
  clear hV hza
  go_wp2_with fail
  go_loopw [9] (fun i wr => ∃ k : Nat, k ≤ n ∧ i = .int .i64 k ∧ Hid (∀ x ∈ W.take k, x.x.a.ad ≠ A) ∧ Hid (Below V.heap.size V wr)) (fun i _ => n - (intOf i).toNat)
  case atStart => exact ⟨0, Nat.zero_le _, rfl, Lib.hid (fun x hx => by simp at hx), Lib.hid (Below.refl _ _)⟩
  case round =>
    obtain ⟨k, hk, rfl, HO, HW⟩ := hrel
    have bwr : Below w.heap.size w wr := HB.out.trans (HW.out.mono HB.out.size)
    have BW := Lib.hid bwr
    by_cases hlt : k < n
    · obtain ⟨b, off, rfl, hi⟩ := HC.out (by omega)
      obtain ⟨x, hx⟩ : ∃ x, W[k]? = some x := ⟨W[k]'(by rw [HN.out]; exact hlt), by simp⟩
      have HXx := Lib.hid (HX.out x (List.mem_of_getElem? hx))
      have HRg := Lib.hid (hi k _ hx)
      have HXg := Lib.hid hx
      have r0 : ∀ g : Ext wr, g.on.rangeAt b (off + k * 29) (aN x.x.a.ad).toList := fun g => (enC_rng (HRg.out.sub (hp_below (bwr.trans (g.below.mono bwr.size))))).at
      have r1 := fun g : Ext wr => adblk (g.block (stay HW.out F1.out))
      have q1 := fun g : Ext wr => (show g.on.cell? ⟨w.heap.size, 1, none⟩ = some (.slice (some ⟨b, off, none⟩) n c) from blk_cell (g.block (stay HW.out F0.out)) (by rw [← HV.out]; rfl))
      have eq := eq_ad x.x.a.ad A HXx.out.ad HAd.out
      clear hi hx bwr
      go_upto_region 4 with fail
      refine region_ext (by kernel_rfl) (by kernel_rfl) ?_
      repeat (first
        | (go_big_quiet_want; refine quiet_load_mid 41 _ rfl b (off + k * 29) (aN x.x.a.ad).toList rfl (fun w2 hw2 => by obtain ⟨g1, rfl⟩ := hw2; exact r0 g1) Tryz.underlying41 rfl (infoAd _) ?_; simp only [Act.put, List.setIfInBounds_toArray, List.set_cons_succ, List.set_cons_zero, Array.toArray_toList]; go_big_quiet_on)
        | (go_big_quiet_want; refine quiet_load_mid 41 _ rfl (w.heap.size + 1) 0 (aN A).toList rfl (fun w2 hw2 => by obtain ⟨g1, rfl⟩ := hw2; exact r1 g1) Tryz.underlying41 rfl (infoAd _) ?_; simp only [Act.put, List.setIfInBounds_toArray, List.set_cons_succ, List.set_cons_zero, Array.toArray_toList]; go_big_quiet_on)
        | go_big_quiet_step (fail))
      refine wpQuiet_nil ?_
      rintro w' ⟨gg, rfl⟩
      have HWg := Lib.hid (HW.out.trans (gg.below.mono HW.out.size))
      have HBg := Lib.hid (BW.out.trans (gg.below.mono BW.out.size))
      clear r0 r1 eq q1
      generalize gg.on = wg at *
      by_cases e : x.x.a.ad = A
      · rw [decide_eq_true e]
        have HE := Lib.hid e
        have F2g := Lib.hid (stay HWg.out F2.out)
        have q1 : wg.cell? ⟨w.heap.size, 1, none⟩ = some (.slice (some ⟨b, off, none⟩) n c) := blk_cell (stay HWg.out F0.out) (by rw [← HV.out]; rfl)
        have rx := (HRg.out.sub (hp_below HBg.out)).at
        have one := enC_ones HXx.out
        clear e
        go_wp2_with (first
          | (refine wpList_load_mid rfl 109 _ rfl b (off + k * 29) rfl (enC x) _ rx Tryz.underlying109 rfl (infoEn _) ?_)
          | (refine wpList_store_row rfl 109 _ _ rfl (w.heap.size + 2) _ (enC x).toArray rfl rfl F2g.out (by simpa using infoEn _) (by simp [enC_len]) one ?_))
        refine bodyPost_ret (v := eval' x) (results_cell_row rfl _ _ _ 109 _ (0, 0) _ rfl (blk_row F2g.out) Tryz.underlying109 rfl (by simpa using infoEn _)) rfl ⟨by rw [atV_at HO.out HXg.out HE.out], below_setRow HBg.out (by omega) _⟩
      · rw [decide_eq_false e]
        have HE := Lib.hid e
        clear e
        go_wp2_with fail
        exact ⟨⟨k + 1, by omega, by go_num, Lib.hid (fun y hy => by
          rw [List.take_add_one, HXg.out] at hy
          rcases List.mem_append.1 hy with hy | hy
          · exact HO.out y hy
          · simp at hy
            subst hy
            exact HE.out), HWg⟩, by simp [intOf]; omega⟩
    · obtain rfl : k = n := by omega
      have F1r := adblk (stay HW.out F1.out)
      have F2r := Lib.hid (stay HW.out F2.out)
      have F0r := (rng_block (w := wr) (cs := (dC d).toList) (by simpa [dC] using stay HW.out F0.out)).at
      have KB' := Lib.hid (KB.out wr BW.out)
      have oneb := ONEB.out
      unfold dC at KB'

      go_wp2_with (first
        | (refine wpList_load_mid rfl 37 _ rfl w.heap.size 0 rfl (dC d).toList _ F0r Tryz.underlying37 rfl infoD ?_; simp only [dC])
        | (refine wpList_load_mid rfl 41 _ rfl (w.heap.size + 1) 0 rfl (aN A).toList _ F1r Tryz.underlying41 rfl (infoAd _) ?_; simp only [Array.toArray_toList])
        | (go_at_call 91; refine KB'.out.mono ?_; rintro e w2 ⟨rfl, b2⟩)
        | (refine wpList_build_en rfl _ rfl (baseV V0 A) rfl ?_)
        | (refine wpList_store_row rfl 109 _ _ rfl (w.heap.size + 2) _ (enC ⟨baseV V0 A, false, false⟩).toArray rfl rfl (stay b2 F2r.out) (by simpa using infoEn _) (by simp [enC_len]) oneb ?_))
      refine bodyPost_ret (v := eval' ⟨baseV V0 A, false, false⟩) (results_cell_row rfl _ _ _ 109 _ (0, 0) _ rfl (blk_row (stay b2 F2r.out)) Tryz.underlying109 rfl (by simpa using infoEn _)) rfl ⟨by rw [atV_none fun t ht => HO.out t (by rw [List.take_of_length_le (by rw [HN.out]; exact Nat.le_refl _)]; exact ht)], below_setRow (BW.out.trans (b2.mono BW.out.size)) (by omega) _⟩
end Go.Proofs.YtnjeoeekidnffaaGreat
/- Stage 14: the document keeps itself in its past. -/
namespace Go.Proofs.YtnjeoeekidnffaaGreat
open Go.RowKit SmWord Go.Maps
set_option maxRecDepth 100000

def dL (d : Dst) : List Value := (dC d).toList
theorem dL_len (d : Dst) : (dL d).length = 8 := rfl
/-- A state's parts are one cell each. -/
structure Dst.One (d : Dst) : Prop where
  w : d.w.oneCell' = true
  l : d.l.oneCell' = true
  wm : d.wm.oneCell' = true
  sl : d.sl.oneCell' = true
  lg : d.lg.oneCell' = true
  ps : d.ps.oneCell' = true
theorem Dst.One.all {d : Dst} (h : d.One) : ∀ u ∈ dL d, u.oneCell' = true := fun u hu => by
  simp only [dL, dC, List.mem_cons, List.not_mem_nil, or_false] at hu
  rcases hu with rfl | rfl | rfl | rfl | rfl | rfl | rfl | rfl
  · exact h.w
  · exact h.l
  · exact h.wm
  · exact h.sl
  · rfl
  · exact h.lg
  · rfl
  · exact h.ps
theorem Dst.One.arr {d : Dst} (h : d.One) : (dC d).all (·.oneCell') = true := by
  rw [Array.all_eq_true_iff_forall_mem]
  intro u hu
  exact h.all u (by simpa [dL] using hu)
def dst0 : Dst := ⟨.slice none 0 0, .slice none 0 0, .slice none 0 0, .slice none 0 0, 0, .slice none 0 0, false, .slice none 0 0⟩
theorem infoD8 : (Tryz.prog.info? 37).map (fun i => (i.zero, i.size, i.bytes)) = some (some (.agg (dC dst0)), 8, 160) := by kernel_rfl
theorem zeroD (w : World) : (zeroValue 37).run Tryz.prog w = .ok (.agg (dC dst0)) w := by kernel_rfl
theorem own_emptyD (w : World) (base : Nat) (hb : base ≤ w.heap.size) : (w.alloc (.cells #[] 37)).ownsRow base 37 8 (.slice (some ⟨w.heap.size, 0, none⟩) 0 0) 0 [] :=
  ⟨rfl, .inr ⟨w.heap.size, 0, #[], rfl, hb, heap_alloc_new _ _, Nat.le_refl _, by simp [maxLen], rfl, rfl⟩⟩
theorem dboxes (w : World) (d : Dst) : ∃ W, (w.alloc (.cells (dC d) 37)).alloc (.cells (dC dst0) 37) = W ∧ W.heap[w.heap.size]? = some (.cells (dC d) 37) ∧ W.heap[w.heap.size + 1]? = some (.cells (dC dst0) 37) ∧ Below w.heap.size w W ∧ W.heap.size = w.heap.size + 2 :=
  ⟨_, rfl, blk_alloc (heap_alloc_new _ _), heap_alloc2_new _ _ _, ((Below.refl _ _).alloc (Nat.le_refl _) _).alloc (by simp) _, by simp⟩
set_option maxHeartbeats 4000000 in
/-- Where nothing is kept. -/
theorem keep_no (d : Dst) (w : World) (h : d.One) (ht : d.tr = false) :
    Calls Tryz.prog 88 #[.agg (dC d)] w fun e w' => e = .returned (.agg (dC d)) ∧ Below w.heap.size w w' := by
  obtain ⟨V, hV, f0, f1, bW, sW⟩ := dboxes w d
  have F1 := Lib.hid f1
  have BW := Lib.hid bW
  have c6 : V.cell? ⟨w.heap.size, 6, none⟩ = some (.bool false) := blk_cell f0 (by rw [← ht]; rfl)
  have r0 := (rng_block (w := V) (cs := (dC d).toList) (by simpa [dC] using f0)).at
  have one := h.arr
  clear f0 f1 bW
  unfold dC at hV
  go_enter Tryz.func88, Tryz.ntmps88
  go_upto_region 1 with (refine wpList_alloc_row rfl 37 rfl _ zeroD ?_)
  unfold dC
  try rw [hV]
  clear hV
  go_wp2_with (first
    | (refine wpList_load_mid rfl 37 _ rfl w.heap.size 0 rfl (dC d).toList _ r0 Tryz.underlying37 rfl infoD ?_)
    | (refine wpList_store_row rfl 37 _ _ rfl (w.heap.size + 1) _ (dC d) rfl rfl F1.out (by simpa using infoD (d := d)) rfl one ?_))
  exact bodyPost_ret (v := .agg (dC d)) (results_cell_row rfl _ _ _ 37 _ (0, 0) _ rfl (blk_row F1.out) Tryz.underlying37 rfl (by simpa using infoD (d := d))) rfl ⟨rfl, below_setRow BW.out (by omega) _⟩
end Go.Proofs.YtnjeoeekidnffaaGreat
