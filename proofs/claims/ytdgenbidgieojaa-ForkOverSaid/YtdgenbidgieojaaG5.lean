/- A store in memory. -/
import Derived.Test.YtdgenbidgieojaaG4
import Derived.Test.YtdgenbidgieojaaShelf
namespace Go.Proofs.Ytdgenbidgieojaa
open Go.RowKit SmWord
set_option maxRecDepth 100000

/-! The way up. -/
/-- x is v, or above it; what comes before it is above u in number. -/
inductive Over (par : Nat → Nat) (u : Nat) : Nat → Nat → Prop
  | here (v : Nat) : Over par u v v
  | step {v x : Nat} : par v < v → u < v → Over par u (par v) x → Over par u v x
theorem Over.le {par : Nat → Nat} {u v x : Nat} (h : Over par u v x) : x ≤ v := by induction h <;> omega
theorem Over.trans {par : Nat → Nat} {u v x y : Nat} (h : Over par u v x) (k : Over par u x y) : Over par u v y := by
  induction h with
  | here => exact k
  | step hp hu _ ih => exact .step hp hu (ih k)
theorem Up.over {par : Nat → Nat} {v x u : Nat} (h : Up par v x) (hu : u ≤ x) : Over par u v x := by
  induction h with
  | here => exact .here _
  | step hp hr ih => exact .step hp (by have := hr.le; omega) (ih hu)
theorem near_over {par : Nat → Nat} {acc : Nat → Option Nat} {u v x : Nat} (h : Over par u v x) (hn : ∀ y, u < y → y ≤ v → acc y = none) : near par acc v = near par acc x := by
  induction h with
  | here => rfl
  | @step v x hp hu hr ih =>
    rw [near_none (hn v hu (Nat.le_refl _)) hp]
    exact ih fun y h1 h2 => hn y h1 (by omega)

/-! What is known of a store beside its memory. -/
structure Gh where
  n : Nat
  par : Nat → Nat
  far : Nat → Nat
  dep : Nat → Int
  acc : Nat → Nat → Option Nat
  mp : Nat → Nat
  vs : Value
  mb : Nat
  cnt : Nat
  sl : Nat → Value
  X : Nat → AV
def i64v (n : Nat) : Value := .int .i64 (n : Int)
/-- A version's cells. -/
def vcs (g : Gh) (i : Nat) : List Value := [i64v (g.par i), i64v (g.far i), .int .i64 (g.dep i), if i = 0 then .map none else .map (some (g.mp i))]
theorem vcs_len (g : Gh) (i : Nat) : (vcs g i).length = 4 := rfl
/-- In which versions A was set. -/
def seqA (g : Gh) (A : Nat) : List Nat := (List.range g.n).filter fun v => (g.acc v A).isSome
def setF (g : Gh) (A : Nat) : Option Value := if (seqA g A).isEmpty then none else some (g.sl A)
def accF (g : Gh) (v A : Nat) : Option Value := (g.acc v A).map fun b => .pointer (some ⟨b, 0, none⟩)
/-- The blocks that are written. -/
def soft (g : Gh) (sb b : Nat) : Prop := b = sb ∨ g.vs.ownBlock = some b ∨ b = g.mb ∨ ∃ A, A < 2 ^ 160 ∧ seqA g A ≠ [] ∧ (g.sl A).ownBlock = some b
structure StoreAt (base : Nat) (Z : Hp) (w : World) (sb : Nat) (g : Gh) (L : Nat → List Acc) : Prop where
  sub : Sub Z (hp w)
  bsb : base ≤ sb
  blk : w.heap[sb]? = some (.cells #[g.vs, .map (some g.mb)] 90)
  row : w.ownsRow base 86 4 g.vs g.n ((List.range g.n).flatMap (vcs g))
  bmb : base ≤ g.mb
  setm : mapIs w g.mb g.cnt (setF g)
  cntle : g.cnt ≤ g.n * 1000000
  sls : ∀ A, A < 2 ^ 160 → seqA g A ≠ [] → w.ownsRow base 3 1 (g.sl A) (seqA g A).length ((seqA g A).map i64v)
  dist : ∀ A A', A < 2 ^ 160 → A' < 2 ^ 160 → seqA g A ≠ [] → seqA g A' ≠ [] → A ≠ A' → (g.sl A).ownBlock ≠ (g.sl A').ownBlock
  maps : ∀ v, 1 ≤ v → v < g.n → ∃ c, ∀ w', Sub Z (hp w') → mapIs w' (g.mp v) c (accF g v)
  accs : ∀ v A b, v < g.n → A < 2 ^ 160 → g.acc v A = some b → Z b = some (.cells (acs (g.X b)).toArray 39) ∧ AccZ Z (g.X b) ∧ (g.X b).a.ad = A ∧ rightA (g.X b).a = true
  zm : ∀ b, soft g sb b → Z b = none
  n1 : 1 ≤ g.n
  nM : g.n ≤ 1048576
  par0 : g.par 0 = 0
  parlt : ∀ v, 1 ≤ v → v < g.n → g.par v < v
  farUp : ∀ v, v < g.n → Up g.par (g.par v) (g.far v)
  acc0 : ∀ A, g.acc 0 A = none
  L0 : L 0 = []
  look : ∀ v A, v < g.n → A < 2 ^ 160 → lookA (L v) A = (near g.par (fun v => g.acc v A) v).map fun b => (g.X b).a
  srt : ∀ v, v < g.n → Srt (L v)
  adL : ∀ v, v < g.n → ∀ x ∈ L v, x.ad < 2 ^ 160

section
variable {base : Nat} {Z : Hp} {w : World} {sb : Nat} {g : Gh} {L : Nat → List Acc}
theorem StoreAt.row_block (h : StoreAt base Z w sb g L) : ∃ vb c cur, g.vs = .slice (some ⟨vb, 0, none⟩) g.n c ∧ base ≤ vb ∧ w.heap[vb]? = some (.cells cur 86) ∧ g.n ≤ c ∧ c ≤ maxLen ∧ ∀ i, i < g.n → ∀ j v, (vcs g i)[j]? = some v → w.cell? ⟨vb, i * 4 + j, none⟩ = some v := by
  rcases h.row.2 with ⟨_, hn⟩ | ⟨vb, c, cur, e, hb, hg, hn, hc, hcs, ht⟩
  · have := h.n1; omega
  · refine ⟨vb, c, cur, e, hb, hg, hn, hc, fun i hi j v hv => ?_⟩
    have := flat_get (f := vcs g) (k := 4) (List.range g.n) (fun x _ => vcs_len g x) i i (by simp [hi]) j v hv
    rw [← ht, List.getElem?_take] at this
    split at this
    · exact blk_cell hg (by simpa using this)
    · cases this
theorem StoreAt.softlt (h : StoreAt base Z w sb g L) {b : Nat} (hb : soft g sb b) : b < w.heap.size := by
  rcases hb with rfl | hb | rfl | ⟨A, hA, hs, hb⟩
  · exact (Array.getElem?_eq_some_iff.1 h.blk).1
  · exact (h.row.lt b hb).2
  · exact h.setm.lt
  · exact ((h.sls A hA hs).lt b hb).2
theorem StoreAt.softge (h : StoreAt base Z w sb g L) {b : Nat} (hb : soft g sb b) : base ≤ b := by
  rcases hb with rfl | hb | rfl | ⟨A, hA, hs, hb⟩
  · exact h.bsb
  · exact (h.row.lt b hb).1
  · exact h.bmb
  · exact ((h.sls A hA hs).lt b hb).1
theorem own_same {w w' : World} {base : Nat} {e : TypeId} {k n : Nat} {v : Value} {xs : List Value} (h : w.ownsRow base e k v n xs) (hb : ∀ b, v.ownBlock = some b → w'.heap[b]? = w.heap[b]?) : w'.ownsRow base e k v n xs := by
  refine ⟨h.1, ?_⟩
  rcases h.2 with h' | ⟨g, cap, cur, rfl, h1, h2, h3⟩
  · exact .inl h'
  · exact .inr ⟨g, cap, cur, rfl, h1, (hb g rfl).trans h2, h3⟩
/-- Nothing that a store leans on has changed. -/
theorem StoreAt.frame {w' : World} (h : StoreAt base Z w sb g L) (hz : Sub Z (hp w')) (hm : ∀ b, soft g sb b → w'.heap[b]? = w.heap[b]?) : StoreAt base Z w' sb g L :=
  { h with
    sub := hz
    blk := (hm sb (.inl rfl)).trans h.blk
    row := own_same h.row fun b hb => hm b (.inr (.inl hb))
    setm := h.setm.same (hm _ (.inr (.inr (.inl rfl))))
    sls := fun A hA hs => own_same (h.sls A hA hs) fun b hb => hm b (.inr (.inr (.inr ⟨A, hA, hs, hb⟩))) }
theorem StoreAt.below {w' : World} (h : StoreAt base Z w sb g L) (hb : Below w.heap.size w w') : StoreAt base Z w' sb g L :=
  h.frame (h.sub.below hb) fun b hm => hb.block b (h.softlt hm)
theorem StoreAt.cell0 (h : StoreAt base Z w sb g L) : w.cell? ⟨sb, 0, none⟩ = some g.vs := blk_cell h.blk rfl
theorem StoreAt.cell1 (h : StoreAt base Z w sb g L) : w.cell? ⟨sb, 1, none⟩ = some (.map (some g.mb)) := blk_cell h.blk rfl

/-- The versions alone. -/
structure VerAt (base : Nat) (w : World) (sb : Nat) (g : Gh) : Prop where
  blk : ∃ mv, w.heap[sb]? = some (.cells #[g.vs, mv] 90)
  row : w.ownsRow base 86 4 g.vs g.n ((List.range g.n).flatMap (vcs g))
  n1 : 1 ≤ g.n
  nM : g.n ≤ 1048576
  par0 : g.par 0 = 0
  parlt : ∀ v, 1 ≤ v → v < g.n → g.par v < v
  farUp : ∀ v, v < g.n → Up g.par (g.par v) (g.far v)
theorem StoreAt.ver (h : StoreAt base Z w sb g L) : VerAt base w sb g := ⟨⟨_, h.blk⟩, h.row, h.n1, h.nM, h.par0, h.parlt, h.farUp⟩
theorem VerAt.cell0 (h : VerAt base w sb g) : w.cell? ⟨sb, 0, none⟩ = some g.vs := by obtain ⟨mv, hb⟩ := h.blk; exact blk_cell hb rfl
theorem VerAt.row_block (h : VerAt base w sb g) : ∃ vb c cur, g.vs = .slice (some ⟨vb, 0, none⟩) g.n c ∧ base ≤ vb ∧ w.heap[vb]? = some (.cells cur 86) ∧ g.n ≤ c ∧ c ≤ maxLen ∧ ∀ i, i < g.n → ∀ j v, (vcs g i)[j]? = some v → w.cell? ⟨vb, i * 4 + j, none⟩ = some v := by
  rcases h.row.2 with ⟨_, hn⟩ | ⟨vb, c, cur, e, hb, hg, hn, hc, hcs, ht⟩
  · have := h.n1; omega
  · refine ⟨vb, c, cur, e, hb, hg, hn, hc, fun i hi j v hv => ?_⟩
    have := flat_get (f := vcs g) (k := 4) (List.range g.n) (fun x _ => vcs_len g x) i i (by simp [hi]) j v hv
    rw [← ht, List.getElem?_take] at this
    split at this
    · exact blk_cell hg (by simpa using this)
    · cases this
theorem VerAt.below {w' : World} (h : VerAt base w sb g) (hb : Below w.heap.size w w') : VerAt base w' sb g := by
  obtain ⟨mv, hbl⟩ := h.blk
  exact { h with
    blk := ⟨mv, (hb.block sb (Array.getElem?_eq_some_iff.1 hbl).1).trans hbl⟩
    row := own_same h.row fun b hbb => hb.block b (h.row.lt b hbb).2 }
theorem slen_walk (h : StoreAt base Z w sb g L) : Calls Try.prog 41 #[.pointer (some ⟨sb, 0, none⟩)] w fun e w' => e = .returned (.int .i64 (g.n : Int)) ∧ w = w' := by
  have c0 := h.cell0
  obtain ⟨vb, c, cur, e, -, -, -, -, -⟩ := h.row_block
  rw [e] at c0
  clear h e
  go_enter Try.func41, Try.ntmps41
  go_wp2_with fail
  go_ret
  exact ⟨rfl, rfl⟩
theorem slen_nil (w : World) : Calls Try.prog 41 #[.pointer none] w fun e w' => e = .returned (.int .i64 0) ∧ w = w' := by
  go_enter Try.func41, Try.ntmps41
  go_wp2_with fail
  go_ret
  exact ⟨rfl, rfl⟩
theorem has_core (p : Option Addr) (n : Nat) (v : Int) (w : World) (HL : Hid (Calls Try.prog 41 #[.pointer p] w fun e w' => e = .returned (.int .i64 (n : Int)) ∧ w = w')) :
    Calls Try.prog 39 #[.pointer p, .int .i64 v] w fun e w' => e = .returned (.bool (decide (0 ≤ v ∧ v < n))) ∧ w = w' := by
  by_cases h1 : 0 ≤ v
  · by_cases h2 : v < n
    · go_enter Try.func39, Try.ntmps39
      go_wp2_with (go_at_call 41; refine HL.out.mono ?_; rintro e w1 ⟨rfl, rfl⟩)
      go_ret
      exact ⟨by rw [decide_eq_true ⟨h1, h2⟩]; rfl, rfl⟩
    · go_enter Try.func39, Try.ntmps39
      go_wp2_with (go_at_call 41; refine HL.out.mono ?_; rintro e w1 ⟨rfl, rfl⟩)
      go_ret
      exact ⟨by show Ending.returned (.bool (decide (v < n))) = _; rw [decide_eq_false (by omega), decide_eq_false (by omega)], rfl⟩
  · go_enter Try.func39, Try.ntmps39
    go_wp2_with fail
    go_ret
    exact ⟨by rw [decide_eq_false (by omega)]; rfl, rfl⟩
theorem has_walk (h : StoreAt base Z w sb g L) (v : Int) : Calls Try.prog 39 #[.pointer (some ⟨sb, 0, none⟩), .int .i64 v] w fun e w' => e = .returned (.bool (decide (0 ≤ v ∧ v < g.n))) ∧ w = w' :=
  has_core _ _ v w (Lib.hid (slen_walk h))
theorem has_nil (v : Int) (w : World) : Calls Try.prog 39 #[.pointer none, .int .i64 v] w fun e w' => e = .returned (.bool false) ∧ w = w' := by
  have := has_core none 0 v w (Lib.hid (by simpa using slen_nil w))
  rwa [decide_eq_false (by omega)] at this
end
end Go.Proofs.Ytdgenbidgieojaa
/- The way up from a version, and what was set last. -/
namespace Go.Proofs.Ytdgenbidgieojaa
open Go.RowKit SmWord
set_option maxRecDepth 100000

theorem drew_size (w : World) : w.drew.heap.size = w.heap.size := rfl
theorem quiet_load_mid {P : Program} {o : Oper} {a : Act} {C : World → Prop} {K : Act → Prop} (t : TypeId) (x : Operand) (ho : o.op = .load t x) (b off : Nat) (cs : List Value) {d : TypeDesc} (hx : a.eval x = .pointer (some ⟨b, off, none⟩))
    (hb : ∀ w, C w → w.rangeAt b off cs) (hu : P.underlying t = some d) (hd : d.isRow = true) (hi : (P.info? t).map (·.size) = some cs.length)
    (hk : K (a.put o.dst (.agg cs.toArray))) : o.quiet P a C K := by
  refine ⟨.agg cs.toArray, fun w hw => ?_, hk⟩
  unfold Oper.quietAt
  have h2 : (execOp a.eval o).run P w = .ok (.value (.agg cs.toArray)) w := by
    unfold execOp
    simp only [ho, hx, Instr.loadAt, Instr.sureAddr, Sem.run_bind, Sem.run_pure, Result.andThen_ok, run_loadVar_mid w b off t cs d (hb w hw) hu hd hi]
  rw [h2]
  exact ⟨rfl, rfl⟩
theorem infoV4 : (Try.prog.info? 86).map (fun i => (i.zero, i.size, i.bytes)) = some (some (.agg #[.int .i64 0, .int .i64 0, .int .i64 0, .map none]), 4, 32) := by kernel_rfl
theorem zeroV_run (w : World) : (zeroValue 86).run Try.prog w = .ok (.agg #[.int .i64 0, .int .i64 0, .int .i64 0, .map none]) w := by kernel_rfl
theorem infoV : (Try.prog.info? 86).map (·.size) = some 4 := by kernel_rfl
theorem vcs_one (g : Gh) (i : Nat) : (vcs g i).toArray.all (·.oneCell') = true := by
  unfold vcs
  split <;> simp [i64v, Value.oneCell']
theorem infoVcs (g : Gh) (i : Nat) : (Try.prog.info? 86).map (·.size) = some (vcs g i).length := by rw [vcs_len]; exact infoV
theorem store_newV (w : World) (g : Gh) (i : Nat) : (storeCells ⟨w.heap.size, 0, none⟩ (vcs g i) 0).run Try.prog (w.alloc (.cells #[.int .i64 0, .int .i64 0, .int .i64 0, .map none] 86)) = .ok () (w.alloc (.cells (vcs g i).toArray 86)) := by
  have := run_storeCells_new (P := Try.prog) w 86 #[.int .i64 0, .int .i64 0, .int .i64 0, .map none] (vcs g i).toArray (by simpa using infoVcs g i) (by simp [vcs_len]) (vcs_one g i)
  simpa using this
theorem vblk {w : World} {b : Nat} {g : Gh} {i : Nat} (h : w.heap[b]? = some (.cells (vcs g i).toArray 86)) :
    w.cell? ⟨b, 1, none⟩ = some (.int .i64 (g.far i : Int)) ∧ w.cell? ⟨b, 2, none⟩ = some (.int .i64 (g.dep i)) :=
  ⟨blk_cell h rfl, blk_cell h rfl⟩
section
variable {base : Nat} {Z : Hp} {w : World} {sb : Nat} {g : Gh} {L : Nat → List Acc}
theorem farle {g : Gh} (h : ∀ v, v < g.n → Up g.par (g.par v) (g.far v)) (p : ∀ v, 1 ≤ v → v < g.n → g.par v < v) (p0 : g.par 0 = 0) {v : Nat} (hv : v < g.n) : g.far v ≤ g.par v ∧ g.par v < g.n := by
  have := (h v hv).le
  refine ⟨this, ?_⟩
  by_cases e : v = 0
  · rw [e, p0]; omega
  · have := p v (by omega) hv; omega
theorem up_walk (h : StoreAt base Z w sb g L) (v u : Nat) (hv : v < g.n) : Calls Try.prog 94 #[.pointer (some ⟨sb, 0, none⟩), .int .i64 (v : Int), .int .i64 (u : Int)] w fun e w' => ∃ x : Nat, e = .returned (.int .i64 (x : Int)) ∧ x ≤ u ∧ Over g.par u v x ∧ w = w' := by
  have c0 := h.cell0
  obtain ⟨vb, c, cur, e, -, -, hn, hc, hcells⟩ := h.row_block
  rw [e] at c0
  have HC := Lib.hid hcells
  have HP := Lib.hid h.parlt
  have HF := Lib.hid h.farUp
  have HL := Lib.hid (fun v hv => farle h.farUp h.parlt h.par0 (v := v) hv)
  have hM := h.nM
  clear h hcells e
  go_enter Try.func94, Try.ntmps94
  go_wp2_with fail
  go_loopw [1] (fun i wr => ∃ k : Nat, k < g.n ∧ i = .int .i64 k ∧ Hid (Over g.par u v k) ∧ w = wr) (fun i _ => (intOf i).toNat)
  case atStart => exact ⟨v, hv, rfl, Lib.hid (.here _), rfl⟩
  case round =>
    obtain ⟨k, hk, rfl, HO, rfl⟩ := hrel
    by_cases hlt : u < k
    · have p0 := HC.out k hk 0 _ rfl
      have p1 := HC.out k hk 1 _ rfl
      simp only [Nat.add_zero, i64v] at p0 p1
      have hlk := HL.out k hk
      have hpk := HP.out k (by omega) hk
      have HG := Lib.hid (Up.over (u := u) (HF.out k hk))
      by_cases hf : u ≤ g.far k
      · go_wp2_with fail
        exact ⟨⟨g.far k, by omega, rfl, Lib.hid (HO.out.trans (.step hpk hlt (HG.out hf))), trivial⟩, by simp [intOf]; omega⟩
      · go_wp2_with fail
        exact ⟨⟨g.par k, by omega, rfl, Lib.hid (HO.out.trans (.step hpk hlt (.here _))), trivial⟩, by simp [intOf]; omega⟩
    · go_wp2_with fail
      go_ret
      exact ⟨k, rfl, by omega, HO.out, rfl⟩
set_option maxHeartbeats 2000000 in
/-- Where a parent's children leap to. -/
theorem far_walk (h : VerAt base w sb g) (p : Nat) (hp : p < g.n) : Calls Try.prog 52 #[.pointer (some ⟨sb, 0, none⟩), .int .i64 (p : Int)] w fun e w' => ∃ x : Nat, e = .returned (.int .i64 (x : Int)) ∧ Up g.par p x ∧ Below w.heap.size w w' := by
  have c0 := h.cell0
  obtain ⟨vb, c, cur, e, -, hvb, hn, hc, hcells⟩ := h.row_block
  rw [e] at c0
  have HC := Lib.hid hcells
  have hM := h.nM
  have HL := Lib.hid (fun v hv => farle h.farUp h.parlt h.par0 (v := v) hv)
  have HU := Lib.hid h.farUp
  have hq : g.far p < g.n := by have := HL.out p hp; omega
  have hr : g.far (g.far p) < g.n := by have := HL.out (g.far p) hq; omega
  have HH := Lib.hid h
  have He := Lib.hid e
  clear h hcells e
  have r1 : w.rangeAt vb (p * 4) (vcs g p) := fun j v hv => HC.out p hp j v hv
  go_enter Try.func52, Try.ntmps52
  have sv := store_newV
  obtain ⟨W, hW⟩ : ∃ W, w.alloc (.cells (vcs g p).toArray 86) = W := ⟨_, rfl⟩
  have f0 : W.heap[w.heap.size]? = some (.cells (vcs g p).toArray 86) := hW ▸ heap_alloc_new _ _
  have HB : Hid (Below w.heap.size w W) := Lib.hid (hW ▸ (Below.refl _ _).alloc (Nat.le_refl _) _)
  go_upto_region 2 with (first
    | (refine wpList_load_mid rfl 86 _ rfl vb _ rfl (vcs g p) _ r1 Try.underlying86 rfl (infoVcs _ _) ?_)
    | (refine wpList_alloc_row rfl 86 rfl _ zeroV_run ?_))
  clear hW sv
  have HW := Lib.hid (HH.out.below HB.out)
  have d0 := HW.out.cell0
  rw [He.out] at d0
  have C1 : Hid (∀ (g1 : Ext W) (i : Nat), i < g.n → ∀ j v, (vcs g i)[j]? = some v → g1.on.cell? ⟨vb, i * 4 + j, none⟩ = some v) := Lib.hid fun g1 i hi j v hv => by
    have h1 := HC.out i hi j v hv
    have l1 := World.block_lt_of_cell? w _ h1
    have := HB.out.size
    exact (g1.below.cell (p := ⟨vb, i * 4 + j, none⟩) (by simp only at l1 ⊢; omega)).trans ((HB.out.cell (p := ⟨vb, i * 4 + j, none⟩) (by simpa using l1)).trans h1)
  refine region_mk1 (aQ := ?aQ) 8 ⟨8, 9, 86, 6, 21, #[.int .i64 0, .int .i64 0, .int .i64 0, .map none], (vcs g (g.far p)).toArray⟩ (by kernel_rfl) (by kernel_rfl) (fun w1 => ?hq) ?hok ?hh
  case hq =>
    simp only [List.take_succ_cons, List.take_zero]
    have cell : ∀ (g : Ext w1.on) {b o : Nat} {v : Value}, W.cell? ⟨b, o, none⟩ = some v → g.on.cell? ⟨b, o, none⟩ = some v := fun g b o v h => by
      have l1 := World.block_lt_of_cell? W _ h
      have h2 : W.heap.size ≤ w1.on.heap.size := w1.below.size
      exact (g.below.cell (p := ⟨b, o, none⟩) (by simp only at l1 ⊢; omega)).trans ((w1.below.cell (p := ⟨b, o, none⟩) (by simpa using l1)).trans h)
    have e0 := fun g => cell g d0
    have e1 := fun g => cell g (vblk f0).1
    have e2 : ∀ g1 : Ext w1.on, g1.on.rangeAt vb (g.far p * 4) (vcs g (g.far p)) := fun g1 j v hv => cell g1 (C1.out ⟨W, Below.refl _ _⟩ _ hq j v hv)
    clear cell
    repeat (first | (go_big_quiet_want; refine quiet_load_mid 86 _ rfl vb _ (vcs g (g.far p)) rfl (fun w2 hw2 => by obtain ⟨g1, rfl⟩ := hw2; exact e2 g1) Try.underlying86 rfl (infoVcs _ _) ?_; simp only [Act.put, List.setIfInBounds_toArray, List.set_cons_succ, List.set_cons_zero]; go_big_quiet_on) | go_big_quiet_step (fail))
    refine wpQuiet_nil ?_
    rfl
  case hok => exact ⟨zeroV_run, by simpa using infoVcs g (g.far p), by simp [vcs_len], vcs_one g _, by simp, rfl⟩
  case hh =>
    intro b5 w4 b1 lb5 f5
    simp only [Act.put, List.setIfInBounds_toArray, List.set_cons_succ, List.set_cons_zero]
    replace f5 : w4.heap[b5]? = some (.cells (vcs g (g.far p)).toArray 86) := f5
    have f4 := stay b1 f0
    have H4 := Lib.hid (HW.out.below b1)
    have k0 := H4.out.cell0
    rw [He.out] at k0
    have q2 : w4.cell? ⟨vb, g.far (g.far p) * 4 + 2, none⟩ = some (.int .i64 (g.dep (g.far (g.far p)))) := by
      have h1 := C1.out ⟨w4, b1⟩ _ hr 2 _ rfl
      exact h1
    have cell : ∀ (g : Ext w4) {b o : Nat} {v : Value}, w4.cell? ⟨b, o, none⟩ = some v → g.on.cell? ⟨b, o, none⟩ = some v := fun g b o v h => (g.below.cell (p := ⟨b, o, none⟩) (by simpa using World.block_lt_of_cell? w4 _ h)).trans h
    obtain ⟨m1, m2⟩ := vblk f4
    obtain ⟨n1, n2⟩ := vblk f5
    have a1 := fun g => cell g m1
    have a2 := fun g => cell g m2
    have a3 := fun g => cell g n1
    have a4 := fun g => cell g n2
    have a5 := fun g => cell g q2
    have a6 := fun g => cell g k0
    have F5 := Lib.hid f5
    have HB4 := Lib.hid (HB.out.trans (b1.mono HB.out.size))
    have HUp : Hid (Up g.par p (g.far p) ∧ Up g.par p (g.far (g.far p))) := Lib.hid (by
      have s1 : ∀ v, v < g.n → Up g.par v (g.far v) := fun v hv => by
        by_cases e0 : v = 0
        · subst e0
          have := HU.out 0 hv
          rw [HH.out.par0] at this
          exact this
        · exact .step (HH.out.parlt v (by omega) hv) (HU.out v hv)
      exact ⟨s1 p hp, (s1 p hp).trans (s1 _ hq)⟩)
    clear b1 f4 m1 m2 n1 n2 q2 cell k0 f5 d0 C1 f0 c0 r1 hvb lb5
    go_wp2_with fail
    refine region_ext (by kernel_rfl) (by kernel_rfl) ?_
    repeat (go_big_quiet_step (fail))
    refine wpQuiet_nil ?_
    rintro w' ⟨gg, rfl⟩
    have t3 := a3 gg
    have HG := Lib.hid gg.below
    generalize gg.on = wg at *
    clear a1 a2 a3 a4 a5 a6
    go_wp2_with fail
    · go_ret
      exact ⟨_, rfl, HUp.out.2, HB4.out.trans (HG.out.mono HB4.out.size)⟩
    · go_ret
      exact ⟨p, rfl, .here _, HB4.out.trans (HG.out.mono HB4.out.size)⟩
end
end Go.Proofs.Ytdgenbidgieojaa
/- What was set last in a version, or above it. -/
namespace Go.Proofs.Ytdgenbidgieojaa
open Go.RowKit SmWord
set_option maxRecDepth 100000

/-- How many of rising numbers are k at most: they come first. -/
theorem cp_spec (k : Nat) : ∀ l : List Nat, l.Pairwise (· < ·) → l.countP (fun y => decide (y ≤ k)) ≤ l.length ∧ (∀ i y, i < l.countP (fun y => decide (y ≤ k)) → l[i]? = some y → y ≤ k) ∧ (∀ i y, l.countP (fun y => decide (y ≤ k)) ≤ i → l[i]? = some y → k < y)
  | [], _ => by simp
  | x :: l, h => by
    obtain ⟨h1, h2⟩ := List.pairwise_cons.1 h
    obtain ⟨i1, i2, i3⟩ := cp_spec k l h2
    by_cases hx : x ≤ k
    · rw [List.countP_cons_of_pos (by simpa using hx)]
      refine ⟨by simpa using i1, fun i y hi hy => ?_, fun i y hi hy => ?_⟩
      · cases i with
        | zero => simp at hy; omega
        | succ i => exact i2 i y (by omega) (by simpa using hy)
      · cases i with
        | zero => omega
        | succ i => exact i3 i y (by omega) (by simpa using hy)
    · have hz : l.countP (fun y => decide (y ≤ k)) = 0 := by
        rw [List.countP_eq_zero]
        intro y hy
        have := h1 y hy
        simp
        omega
      rw [List.countP_cons_of_neg (by simpa using hx), hz]
      refine ⟨Nat.zero_le _, fun i y hi => by omega, fun i y _ hy => ?_⟩
      cases i with
      | zero => simp at hy; omega
      | succ i =>
        have := h1 y (List.mem_of_getElem? (by simpa using hy))
        omega
theorem seqA_srt (g : Gh) (A : Nat) : (seqA g A).Pairwise (· < ·) := List.Pairwise.filter _ List.pairwise_lt_range
theorem seqA_mem {g : Gh} {A v : Nat} : v ∈ seqA g A ↔ v < g.n ∧ (g.acc v A).isSome = true := by simp [seqA]
theorem bs_nil (A : Option Addr) (c : Nat) (x : Int) (w : World) : Calls Try.prog 93 #[.slice A 0 c, .int .i64 x] w fun e w' => e = .returned (.tuple #[.int .i64 0, .bool false]) ∧ w = w' := by
  go_enter Try.func93, Try.ntmps93
  go_wp2_with fail
  refine wp_loop_rounds 1 ?_
  rw [rounds_succ]
  go_wp2_with fail
  exact bodyPost_ret (v := .tuple #[.int .i64 0, .bool false]) (by simp [results, Try.results93, go_sem]) rfl ⟨rfl, rfl⟩
/-- How many entries are v at most. -/
theorem bs_walk (ib m c : Nat) (l : List Nat) (k : Nat) (w : World) (hm : m ≤ l.length) (hl : l.length ≤ 1048576) (hc : ∀ j y, l[j]? = some y → w.cell? ⟨ib, j, none⟩ = some (i64v y)) (hs : l.Pairwise (· < ·)) :
    Calls Try.prog 93 #[.slice (some ⟨ib, 0, none⟩) m c, .int .i64 ((k : Int) + 1)] w fun e w' => ∃ q, e = .returned (.tuple #[.int .i64 (((l.take m).countP (fun y => decide (y ≤ k)) : Nat) : Int), .bool q]) ∧ Below w.heap.size w w' := by
  refine (Try.slices_BinarySearch_int ib 0 m c (l.map fun (y : Nat) => (y : Int)) ((k : Int) + 1) w (by simpa using hm) (by omega) (fun j hj => ?_) ?_).mono ?_
  · rw [Nat.zero_add]
    rw [List.length_map] at hj
    rw [hc j l[j] (by simp [hj])]
    simp [i64v, List.getD, hj]
  · rw [← List.map_take, List.pairwise_map]
    exact (hs.sublist (List.take_sublist m l)).imp fun h => by omega
  · rintro e w' ⟨rfl, q, rfl⟩
    have e : ((l.map fun (y : Nat) => (y : Int)).take m).countP (fun y => decide (y < (k : Int) + 1)) = (l.take m).countP (fun y => decide (y ≤ k)) := by
      rw [← List.map_take, List.countP_map]
      congr 1
      funext y
      simp
      omega
    rw [e]
    exact ⟨_, rfl, ⟨rfl, rfl, rfl, Nat.le_refl _, fun _ _ => rfl⟩⟩
def ptrV : Option Nat → Value
  | some b => .pointer (some ⟨b, 0, none⟩)
  | none => .pointer none
theorem boxAd (w : World) (A : Nat) : (w.alloc (.cells (aN A) 32)).heap[w.heap.size]? = some (.cells (aN A) 32) ∧ Below w.heap.size w (w.alloc (.cells (aN A) 32)) :=
  ⟨heap_alloc_new _ _, (Below.refl _ _).alloc (Nat.le_refl _) _⟩
theorem adblk {w : World} {b A : Nat} (h : w.heap[b]? = some (.cells (aN A) 32)) : w.rangeAt b 0 (aN A).toList := fun j v hv => by
  rw [Nat.zero_add]
  exact blk_cell h (by simpa using hv)
theorem zeroSl_run (w : World) : (zeroValue 107).run Try.prog w = .ok (.slice none 0 0) w := by kernel_rfl
theorem zeroPA_run (w : World) : (zeroValue 106).run Try.prog w = .ok (.pointer none) w := by kernel_rfl
section
variable {base : Nat} {Z : Hp} {w : World} {sb : Nat} {g : Gh} {L : Nat → List Acc}
theorem last_none (p : Option Addr) (n : Nat) (v : Int) (A : Nat) (hv : ¬ (0 ≤ v ∧ v < n)) (HL : Hid (∀ w1, Below w.heap.size w w1 → Calls Try.prog 39 #[.pointer p, .int .i64 v] w1 fun e w' => e = .returned (.bool (decide (0 ≤ v ∧ v < n))) ∧ w1 = w')) :
    Calls Try.prog 92 #[.pointer p, .int .i64 v, .agg (aN A)] w fun e w' => e = .returned (.pointer none) ∧ Below w.heap.size w w' := by
  rw [decide_eq_false hv] at HL
  have hs := aN_size A
  have HB := Lib.hid (boxAd w A).2
  clear hv
  go_enter Try.func92, Try.ntmps92
  go_wp2_with (go_at_call 39; refine (HL.out _ HB.out).mono ?_; rintro e w1 ⟨rfl, rfl⟩)
  go_ret
  exact ⟨rfl, HB.out⟩
/-- What the map of sets says at an address. -/
def svA (g : Gh) (A : Nat) : Value := (setF g A).getD (.slice none 0 0)
theorem StoreAt.sv (h : StoreAt base Z w sb g L) {A : Nat} (hA : A < 2 ^ 160) : ∃ ad c, svA g A = .slice ad (seqA g A).length c ∧ (seqA g A).length ≤ c ∧ c ≤ maxLen ∧ (0 < (seqA g A).length → ∃ ib, ad = some ⟨ib, 0, none⟩ ∧ ib < w.heap.size ∧ ∀ j y, (seqA g A)[j]? = some y → w.cell? ⟨ib, j, none⟩ = some (i64v y)) := by
  unfold svA setF
  cases hq : seqA g A with
  | nil => exact ⟨none, 0, rfl, Nat.le_refl _, by simp [maxLen], fun h => absurd h (by simp)⟩
  | cons x l =>
    have hne : seqA g A ≠ [] := by rw [hq]; simp
    have ho := h.sls A hA hne
    rw [hq] at ho
    rcases ho.2 with ⟨_, h0⟩ | ⟨ib, c, cur, e, _, hg, hn, hc, _, ht⟩
    · simp at h0
    · refine ⟨_, c, by rw [← e]; rfl, hn, hc, fun _ => ⟨ib, rfl, (Array.getElem?_eq_some_iff.1 hg).1, fun j y hj => ?_⟩⟩
      have h1 : ((x :: l).map i64v)[j]? = some (i64v y) := by rw [List.getElem?_map, hj]; rfl
      rw [← ht, List.getElem?_take] at h1
      split at h1
      · exact blk_cell hg (by simpa using h1)
      · cases h1
set_option maxHeartbeats 2000000 in
theorem last_walk (h : StoreAt base Z w sb g L) (v A : Nat) (hv : v < g.n) (hA : A < 2 ^ 160) :
    Calls Try.prog 92 #[.pointer (some ⟨sb, 0, none⟩), .int .i64 (v : Int), .agg (aN A)] w fun e w' => e = .returned (ptrV (near g.par (fun v => g.acc v A) v)) ∧ Below w.heap.size w w' := by
  have hs := aN_size A
  obtain ⟨f0, bW⟩ := boxAd w A
  obtain ⟨W, hW⟩ : ∃ W, w.alloc (.cells (aN A) 32) = W := ⟨_, rfl⟩
  rw [hW] at f0 bW
  have hb := h.below bW
  have KH := Lib.hid (has_walk hb (v : Int))
  rw [decide_eq_true (by omega)] at KH
  obtain ⟨ad, c, esv, hlc, hcM, hcells⟩ := hb.sv hA
  have LK := fun g1 : Ext W => ((hb.setm.same (g1.below.block _ hb.setm.lt)).look Try.underlying88 (zeroSl_run _) hA)
  replace LK : ∀ g1 : Ext W, (Instr.lookup 88 (.map (some g.mb)) (.agg (aN A)) false).run Try.prog g1.on = .ok (svA g A) g1.on := LK
  rw [esv] at LK
  have c1 := fun g1 : Ext W => (hb.below g1.below).cell1
  have r0 := fun g1 : Ext W => adblk (g1.block f0)
  have HW := Lib.hid hb
  have HB := Lib.hid bW
  have F0 := Lib.hid f0
  have HC := Lib.hid hcells
  clear bW f0 h hcells esv hb
  go_enter Try.func92, Try.ntmps92
  go_upto_region 1 with fail
  clear hW
  go_wp2_with (go_at_call 39; refine KH.out.mono ?_; rintro e w1 ⟨rfl, rfl⟩)
  refine region_ext (by kernel_rfl) (by kernel_rfl) ?_
  repeat (first | (go_big_quiet_want; refine quiet_load_mid 32 _ rfl w.heap.size 0 (aN A).toList rfl (fun w2 hw2 => by obtain ⟨g1, rfl⟩ := hw2; exact r0 g1) Try.underlying32 rfl (infoAd A) ?_; simp only [Act.put, List.setIfInBounds_toArray, List.set_cons_succ, List.set_cons_zero, Array.toArray_toList]; go_big_quiet_on) | go_big_quiet_step (fail))
  refine wpQuiet_nil ?_
  rintro w' ⟨gg, rfl⟩
  have HG := Lib.hid gg.below
  generalize gg.on = wg at *
  have HW2 := Lib.hid (HW.out.below HG.out)
  have F2 := Lib.hid (stay HG.out F0.out)
  have HB2 := Lib.hid (HB.out.trans (HG.out.mono HB.out.size))
  replace HC : Hid (0 < (seqA g A).length → ∃ ib, ad = some ⟨ib, 0, none⟩ ∧ ib < wg.heap.size ∧ ∀ j y, (seqA g A)[j]? = some y → wg.cell? ⟨ib, j, none⟩ = some (i64v y)) := Lib.hid fun hn => by
    obtain ⟨ib, e, hl, hc⟩ := HC.out hn
    exact ⟨ib, e, Nat.lt_of_lt_of_le hl HG.out.size, fun j y hj => (HG.out.cell (p := ⟨ib, j, none⟩) hl).trans (hc j y hj)⟩
  have hM := HW2.out.nM
  have hlen : (seqA g A).length ≤ 1048576 := Nat.le_trans (by unfold seqA; exact Nat.le_trans (List.length_filter_le _ _) (by simp)) hM
  clear LK c1 r0 HG HW HB F0 KH
  go_wp2_with fail
  go_loopw [1, 7] (fun i s wr => ∃ k m : Nat, k < g.n ∧ m ≤ (seqA g A).length ∧ i = .int .i64 k ∧ s = .slice ad m c ∧ Hid (near g.par (fun v => g.acc v A) k = near g.par (fun v => g.acc v A) v) ∧ Hid (∀ y ∈ seqA g A, y ≤ k → y ∈ (seqA g A).take m) ∧ Hid (Below wg.heap.size wg wr)) (fun _ s _ => match s with | .slice _ m _ => m | _ => 0)
  case atStart =>
    refine ⟨v, _, hv, Nat.le_refl _, rfl, rfl, Lib.hid rfl, Lib.hid fun y hy _ => ?_, Lib.hid (Below.refl _ _)⟩
    rw [List.take_length]
    exact hy
  case round =>
    obtain ⟨k, m, hk, hm, rfl, rfl, HN, HT, HR⟩ := hrel
    have HWr := Lib.hid (HW2.out.below HR.out)
    have HBr := Lib.hid (HB2.out.trans (HR.out.mono HB2.out.size))
    have hz : m = 0 ∨ 0 < m := by omega
    rcases hz with rfl | hm0
    · have KN := Lib.hid fun w => bs_nil ad c ((k : Int) + 1) w
      go_wp2_with (go_at_call 93; refine (KN.out _).mono ?_; rintro e w1 ⟨rfl, rfl⟩)
      go_ret
      refine ⟨?_, HBr.out⟩
      have : near g.par (fun v => g.acc v A) v = none := by
        rw [← HN.out]
        refine near_low fun y hy => ?_
        cases ha : g.acc y A with
        | none => rfl
        | some b =>
          have := HT.out y (seqA_mem.2 ⟨by omega, by rw [ha]; rfl⟩) hy
          simp at this
      rw [this]
      rfl
    · obtain ⟨ib, rfl, hib, hcl⟩ := HC.out (by omega)
      have KB := Lib.hid (bs_walk ib m c (seqA g A) k wr hm hlen (fun j y hj => (HR.out.cell (p := ⟨ib, j, none⟩) hib).trans (hcl j y hj)) (seqA_srt g A))
      obtain ⟨s1, s2, s3⟩ := cp_spec k ((seqA g A).take m) ((seqA_srt g A).sublist (List.take_sublist _ _))
      have S2 := Lib.hid s2
      have S3 := Lib.hid s3
      have hct : (List.take m (seqA g A)).length = m := by simp; omega
      rw [hct] at s1
      generalize ((seqA g A).take m).countP (fun y => decide (y ≤ k)) = q at *
      clear s2 s3 hct
      rcases Nat.eq_zero_or_pos q with rfl | hq0
      · go_wp2_with (go_at_call 93; refine KB.out.mono ?_; rintro e w1 ⟨qb, rfl, b1⟩; replace HBr := Lib.hid (HBr.out.trans (b1.mono HBr.out.size)))
        go_ret
        refine ⟨?_, HBr.out⟩
        have : near g.par (fun v => g.acc v A) v = none := by
          rw [← HN.out]
          refine near_low fun y hy => ?_
          cases ha : g.acc y A with
          | none => rfl
          | some b =>
            have h1 := HT.out y (seqA_mem.2 ⟨by omega, by rw [ha]; rfl⟩) hy
            obtain ⟨i, hi⟩ := List.mem_iff_getElem?.1 h1
            have := S3.out i y (Nat.zero_le _) hi
            omega
        rw [this]
        rfl
      · obtain ⟨u, hu⟩ : ∃ u, (seqA g A)[q - 1]? = some u := ⟨(seqA g A)[q - 1]'(by omega), by simp⟩
        have hut : ((seqA g A).take m)[q - 1]? = some u := by rw [List.getElem?_take, if_pos (by omega)]; exact hu
        have huk := S2.out (q - 1) u (by omega) hut
        have hun := (seqA_mem.1 (List.mem_of_getElem? hu)).1
        have hub := (seqA_mem.1 (List.mem_of_getElem? hu)).2
        have cu := (HR.out.cell (p := ⟨ib, q - 1, none⟩) hib).trans (hcl _ _ hu)
        have HNo : Hid (∀ y, u < y → y ≤ k → g.acc y A = none) := Lib.hid fun y h1 h2 => by
          cases ha : g.acc y A with
          | none => rfl
          | some b =>
            have h3 := HT.out y (seqA_mem.2 ⟨by omega, by rw [ha]; rfl⟩) h2
            obtain ⟨i, hi⟩ := List.mem_iff_getElem?.1 h3
            have hiq : i < q := by
              by_cases e : i < q
              · exact e
              · have := S3.out i y (by omega) hi; omega
            have hps := (seqA_srt g A).sublist (List.take_sublist m _)
            have : i < q - 1 ∨ i = q - 1 := by omega
            rcases this with e | e
            · have h4 := List.pairwise_iff_getElem.1 hps i (q - 1) (by simp; omega) (by simp; omega) e
              have e1 := (List.getElem?_eq_some_iff.1 hi).2
              have e2 := (List.getElem?_eq_some_iff.1 hut).2
              omega
            · subst e
              rw [hi] at hut
              cases hut
              omega
        have HLt : Hid (∀ y ∈ seqA g A, y < u → y ∈ (seqA g A).take (q - 1)) := Lib.hid fun y hy h1 => by
          obtain ⟨i, hi⟩ := List.mem_iff_getElem?.1 hy
          have hiq : i < q - 1 := by
            by_cases e : i < q - 1
            · exact e
            · by_cases e' : i = q - 1
              · subst e'; rw [hu] at hi; cases hi; omega
              · have hil := (List.getElem?_eq_some_iff.1 hi).1
                have h4 := List.pairwise_iff_getElem.1 (seqA_srt g A) (q - 1) i (by omega) hil (by omega)
                have e1 := (List.getElem?_eq_some_iff.1 hi).2
                have e2 := (List.getElem?_eq_some_iff.1 hu).2
                omega
          exact List.mem_iff_getElem?.2 ⟨i, by rw [List.getElem?_take, if_pos hiq]; exact hi⟩
        have HU := Lib.hid hu
        have i1 : (q : Int) - 1 = ((q - 1 : Nat) : Int) := by omega
        have HHu := Lib.hid huk
        have HCL := Lib.hid hcl
        have CU := Lib.hid cu
        clear hcl cu hu hut huk S2 S3 HT
        go_wp2_with (first
          | (go_at_call 93; refine KB.out.mono ?_; rintro e w1 ⟨qb, rfl, b1⟩; have cu := (b1.cell (p := ⟨ib, q - 1, none⟩) (Nat.lt_of_lt_of_le hib HR.out.size)).trans CU.out; simp only [i64v] at cu; replace HBr := Lib.hid (HBr.out.trans (b1.mono HBr.out.size)); replace HR := Lib.hid (HR.out.trans (b1.mono HR.out.size)); replace HWr := Lib.hid (HWr.out.below b1); clear b1 CU)
          | (go_at_call 94; refine (up_walk HWr.out k u hk).mono ?_; rintro e w2 ⟨x, rfl, hxu, hov, rfl⟩; clear cu))
        · have hxe : x = u := by simp_all; omega
          obtain rfl := hxe
          obtain ⟨b, hb⟩ := Option.isSome_iff_exists.1 hub
          have hx0 : x ≠ 0 := fun e => by rw [e, HWr.out.acc0] at hb; cases hb
          obtain ⟨vb, cc, cur, evs, -, hvb, hnc, hcc, hvc⟩ := HWr.out.row_block
          obtain ⟨cn, hmp⟩ := HWr.out.maps x (by omega) hun
          have F4 : Hid (w1.heap[w.heap.size]? = some (.cells (aN A) 32)) := Lib.hid (stay HR.out F2.out)
          have d0 : ∀ g1 : Ext w1, g1.on.cell? ⟨sb, 0, none⟩ = some (.slice (some ⟨vb, 0, none⟩) g.n cc) := fun g1 => by
            have := (HWr.out.below g1.below).cell0
            rwa [evs] at this
          have d1 : ∀ g1 : Ext w1, g1.on.cell? ⟨vb, x * 4 + 3, none⟩ = some (.map (some (g.mp x))) := fun g1 => by
            have h1 := hvc x hun 3 _ rfl
            rw [if_neg hx0] at h1
            exact (g1.below.cell (p := ⟨vb, x * 4 + 3, none⟩) (by simpa using World.block_lt_of_cell? w1 _ h1)).trans h1
          have LK : ∀ g1 : Ext w1, (Instr.lookup 84 (.map (some (g.mp x))) (.agg (aN A)) false).run Try.prog g1.on = .ok (.pointer (some ⟨b, 0, none⟩)) g1.on := fun g1 => by
            have := (hmp g1.on (HWr.out.sub.below g1.below)).look Try.underlying84 (zeroPA_run _) hA
            rw [this]
            unfold accF
            rw [hb]
            rfl
          have r0 := fun g1 : Ext w1 => adblk (g1.block F4.out)
          have HN2 : Hid (near g.par (fun v => g.acc v A) v = some b) := Lib.hid (by
            rw [← HN.out, near_over hov HNo.out]
            exact near_some hb)
          clear hvb hvc hmp hb hov hub evs
          refine region_ext (by kernel_rfl) (by kernel_rfl) ?_
          repeat (first | (go_big_quiet_want; refine quiet_load_mid 32 _ rfl w.heap.size 0 (aN A).toList rfl (fun w2 hw2 => by obtain ⟨g1, rfl⟩ := hw2; exact r0 g1) Try.underlying32 rfl (infoAd A) ?_; simp only [Act.put, List.setIfInBounds_toArray, List.set_cons_succ, List.set_cons_zero, Array.toArray_toList]; go_big_quiet_on) | go_big_quiet_step (fail))
          refine wpQuiet_nil ?_
          rintro w' ⟨gg, rfl⟩
          have HG := Lib.hid gg.below
          generalize gg.on = wz at *
          clear LK d0 d1 r0
          go_wp2_with fail
          go_ret
          refine ⟨?_, HBr.out.trans (HG.out.mono HBr.out.size)⟩
          rw [HN2.out]
          rfl
        · have hxne : x ≠ u := by simp_all; omega
          have := hov.le
          refine ⟨⟨x, q - 1, by omega, by omega, rfl, rfl, Lib.hid ((near_over hov HNo.out).symm.trans HN.out), Lib.hid fun y hy h1 => HLt.out y hy (by omega), HR⟩, ?_⟩
          show q - 1 < m
          omega
end
end Go.Proofs.Ytdgenbidgieojaa
