/- Stage 14: a state with what was done; done. -/
import Derived.Test.YtnjeoeekidnffaaGreatNi
namespace Go.Proofs.YtnjeoeekidnffaaGreat
open Go.RowKit SmWord Go.Maps
set_option maxRecDepth 100000

theorem owns_same {w w' : World} {base : Nat} {e : TypeId} {k n : Nat} {v : Value} {xs : List Value} (h : w.ownsRow base e k v n xs) (hb : ∀ b, v.ownBlock = some b → w'.heap[b]? = w.heap[b]?) : w'.ownsRow base e k v n xs := by
  refine ⟨h.1, ?_⟩
  rcases h.2 with h | ⟨g, cap, cur, rfl, h1, h2, h3⟩
  · exact .inl h
  · exact .inr ⟨g, cap, cur, rfl, h1, (hb g rfl).trans h2, h3⟩
theorem AtIs.ahead {N : Nat} {fa : Nat → Acc} {fk : Nat → Bool} {Z : Hp} {base : Nat} {w : World} {G G' : Gs} {A ap : Nat} (h : AtIs fa fk N G A G' ap) (hc : Core Z base w G) : Ahead fa fk G G' ∧ G'.ab A = some ap := by
  cases h with
  | old h => exact ⟨.refl _ _ _, h⟩
  | @new ap sp sm wm c qa y h hy h1 h2 h3 h4 _ _ _ _ =>
    have ab : ∀ B, B ≠ A → (newG (askG G fk A) A ap sp sm wm c qa y).ab B = G.ab B := fun B hB => (if_neg hB).trans (by rw [askG_ab])
    have en : ∀ B, B ≠ A → (newG (askG G fk A) A ap sp sm wm c qa y).en B = G.en B := fun B hB => (if_neg hB).trans (by rw [askG_en])
    have ea : (newG (askG G fk A) A ap sp sm wm c qa y).en A = ent0 y sp wm := if_pos rfl
    have st : ∀ p, p ≠ sp → (newG (askG G fk A) A ap sp sm wm c qa y).st p = G.st p := fun p hp => (if_neg hp).trans (by rw [askG_st])
    have s0 : G.st sp = none := by
      cases hs : G.st sp with
      | none => rfl
      | some s => rw [(hc.sto sp s hs).1] at h2; cases h2
    refine ⟨⟨fun B b hb => ?_, fun p s hs => ⟨s, (st p fun e => by rw [e, s0] at hs; cases hs).trans hs, .refl s⟩, fun B b hb hb' => ?_, askG_sb _ _ _, ?_⟩, if_pos rfl⟩
    · have e : B ≠ A := fun e => by rw [e, h] at hb; cases hb
      exact ⟨(ab B e).trans hb, by rw [en B e]⟩
    · by_cases e : B = A
      · subst e
        refine ⟨⟨by rw [ea]; exact hy, by rw [ea, ← hy]; rfl, by rw [ea, ← hy]; rfl, by rw [ea, ← hy]; rfl, by rw [ea]; rfl, by rw [ea]; rfl, by rw [ea]; rfl, ⟨_, by rw [ea]; exact if_pos rfl, by rw [← hy], fun _ => rfl⟩⟩, by rw [ea]; exact s0⟩
      · rw [ab B e, hb] at hb'
        cases hb'
    · show (askG G fk A).rf = G.rf
      unfold askG
      split <;> rfl
/-- A state with what was done. -/
structure StAt (Z : Hp) (base : Nat) (w : World) (G : Gs) (U : List (UOp × Array Value)) (K : Nat) : Prop where
  core : Core Z base w G
  und : w.ownsRow base 1 1 G.uv U.length (U.reverse.map fun x => .func (.func (ufn x.1)) #[] x.2)
  unb : ∀ b, G.uv.ownBlock = some b → G.own b = some .und
  hist : Hist Z G U
  few : ∀ p s, G.st p = some s → s.n + U.length ≤ K
  few2 : ∀ A b, G.ab A = some b → (G.en A).wn + U.length ≤ K
  fewU : U.length ≤ K
  fewA : G.na ≤ K
  base_le : base ≤ w.heap.size
/-- The same with another row of what was done. -/
def undG (G : Gs) (uv : Value) : Gs := { G with uv := uv, own := fun b => if uv.ownBlock = some b then some .und else G.own b }
theorem Core.noted {Z : Hp} {base : Nat} {w w1 : World} {G : Gs} {uv : Value} (h : Core Z base w G) (hb : base ≤ w.heap.size) (hun : ∀ b, G.uv.ownBlock = some b → G.own b = some .und) (hg : w.grownBy w1 G.uv.ownBlock) (hl : ∀ b, uv.ownBlock = some b → b < w1.heap.size) (ho : ∀ b, uv.ownBlock = some b → G.uv.ownBlock = some b ∨ w.heap.size ≤ b) :
    Core Z base (w1.setRow G.sb (stC (undG G uv)).toArray) (undG G uv) ∧ Tch (fun b => b = G.sb ∨ G.own b = some .und) w (w1.setRow G.sb (stC (undG G uv)).toArray) := by
  have hn : ∀ b r, G.own b = some r → r ≠ .und → uv.ownBlock ≠ some b := fun b r hr hne e => by
    rcases ho b e with h1 | h1
    · rw [hun b h1] at hr
      injection hr with hr
      exact hne hr.symm
    · have := h.lt hr
      omega
  have keep : ∀ b r, G.own b = some r → r ≠ .und → (undG G uv).own b = some r := fun b r hr hne => (if_neg (hn b r hr hne)).trans hr
  have back : ∀ b r, (undG G uv).own b = some r → r ≠ .und → G.own b = some r := fun b r hr hne => by
    unfold undG at hr
    simp only at hr
    split at hr
    · injection hr with hr
      exact absurd hr.symm hne
    · exact hr
  have hsb : w1.heap[G.sb]? = w.heap[G.sb]? := hg.block _ (h.lt h.osb) fun e => by
    have := hun G.sb e.symm
    rw [h.osb] at this
    cases this
  have k1 : ∀ b, b < w.heap.size → b ≠ G.sb → G.own b ≠ some .und → (w1.setRow G.sb (stC (undG G uv)).toArray).heap[b]? = w.heap[b]? := fun b hb h1 h2 => by
    rw [setRow_other _ _ _ _ h1]
    exact hg.block b hb fun e => h2 (hun b e.symm)
  have hsz := hg.size
  refine ⟨?_, ⟨hg.os, hg.tape, hg.output, by rw [setRow_size]; exact hsz, fun b hb hs => k1 b hb (fun e => hs (.inl e)) fun e => hs (.inr e)⟩⟩
  exact
  { h with
    sub := fun b o ho' => by
      have h1 := h.sub b o ho'
      unfold hp
      rw [k1 b (Array.getElem?_eq_some_iff.1 h1).1 (fun e => by rw [e, h.zs _ _ h.osb] at ho'; cases ho') fun e => by rw [h.zs _ _ e] at ho'; cases ho']
      exact h1
    zs := fun b r hr => by
      by_cases e : uv.ownBlock = some b
      · rcases ho b e with h1 | h1
        · exact h.zs _ _ (hun b h1)
        · cases hz : Z b with
          | none => rfl
          | some o =>
            have := (Array.getElem?_eq_some_iff.1 (h.sub b o hz)).1
            omega
      · exact h.zs b r ((if_neg e).symm.trans hr)
    ge := fun b r hr => by
      by_cases e : uv.ownBlock = some b
      · rcases ho b e with h1 | h1
        · exact h.ge _ _ (hun b h1)
        · omega
      · exact h.ge b r ((if_neg e).symm.trans hr)
    hold := fun b r hr => by
      by_cases e : uv.ownBlock = some b
      · have : (undG G uv).own b = some .und := if_pos e
        rw [this] at hr
        injection hr with hr
        subst hr
        show b < _
        rw [setRow_size]
        exact hl b e
      · have hr' : G.own b = some r := (if_neg e).symm.trans hr
        by_cases e2 : b = G.sb
        · rw [e2, h.osb] at hr'
          injection hr' with hr'
          subst hr'
          rw [e2]
          exact blk_row (hsb.trans h.stc)
        · by_cases e3 : r = .und
          · subst e3
            show b < _
            rw [setRow_size]
            have := h.lt hr'
            omega
          · have h1 := (h.hold b r hr').same (k1 b (h.lt hr') e2 (fun e => by rw [hr'] at e; injection e with e; exact e3 e))
            cases r with
            | stb => exact absurd (h.uniq b G.sb _ hr' h.osb rfl) e2
            | amap => exact h1
            | acc A => exact h1
            | sto => exact h1
            | now p => exact h1
            | warm A => exact h1
            | lgs => exact h1
            | und => exact absurd rfl e3
    osb := keep _ _ h.osb nofun
    oam := keep _ _ h.oam nofun
    uniq := fun b b' r hb hb' hu => by
      have hne : r ≠ .und := fun e => by rw [e] at hu; cases hu
      exact h.uniq b b' r (back b r hb hne) (back b' r hb' hne) hu
    accs := fun b A hb => h.accs b A (back b _ hb nofun)
    warms := fun b A hb => h.warms b A (back b _ hb nofun)
    acc := fun A b hb => by
      obtain ⟨h1, h2, h3⟩ := h.acc A b hb
      exact ⟨h1, keep _ _ h2 nofun, ⟨h3.z, h3.ad, h3.no, h3.ba, h3.sp, keep _ _ h3.wm nofun⟩⟩
    sto := fun p s hs => by
      obtain ⟨h1, h2, h3⟩ := h.sto p s hs
      exact ⟨keep _ _ h1 nofun, keep _ _ h2 nofun, h3⟩ }
theorem ahead_und (fa : Nat → Acc) (fk : Nat → Bool) (G : Gs) (uv : Value) : Ahead fa fk G (undG G uv) := ⟨fun A b h => ⟨h, rfl⟩, fun p s h => ⟨s, h, .refl s⟩, (fun A b h k => by rw [show (undG G uv).ab A = G.ab A from rfl, h] at k; cases k), rfl, rfl⟩
theorem stc_uvp (G : Gs) (v : Value) : putAt (stC G) 25 [v] = stC (undG G v) := by
  rw [putAt_one (by rw [stC_len]; decide), stc_uv]
  rfl
theorem stc_25 (G : Gs) : (stC G)[25]? = some G.uv := by
  have hN : (aN G.mi).toList.length = 20 := by simp [aN_size]
  unfold stC
  simp only [List.cons_append, List.getElem?_cons_succ]
  rw [List.getElem?_append_right (by omega), hN]
  rfl
/-- Something that was done is noted. -/
theorem note_walk {Z : Hp} {base K : Nat} {w : World} {G G0 : Gs} {U : List (UOp × Array Value)} {op : UOp} {cap : Array Value} (fa : Nat → Acc) (fk : Nat → Bool) (h : Core Z base w G) (hu : w.ownsRow base 1 1 G.uv U.length (U.reverse.map fun x => .func (.func (ufn x.1)) #[] x.2)) (hun : ∀ b, G.uv.ownBlock = some b → G.own b = some .und)
    (hop : UOk Z G op cap) (hh : Hist Z G0 U) (hg0 : Ahead fa fk G0 (act G op)) (hb : base ≤ w.heap.size) (hK : K ≤ 1000000) (few : ∀ p s, G.st p = some s → s.n + U.length + 1 ≤ K) (few2 : ∀ A b, G.ab A = some b → (G.en A).wn + U.length + 1 ≤ K) (fewU : U.length + 1 ≤ K) (fewA : G.na ≤ K) :
    Calls Tryz.prog 65 #[ptr G.sb, .func (.func (ufn op)) #[] cap] w fun e w' => e = .returned (.tuple #[]) ∧ ∃ uv, StAt Z base w' (undG G uv) ((op, cap) :: U) K ∧ Tch (fun b => b = G.sb ∨ G.own b = some .und) w w' := by
  refine (done_walk h.stc (stC_len G) (stc_25 G) hu hb (by omega)).mono ?_
  rintro e w' ⟨rfl, uv, w1, rfl, f1, ho, hg, hx⟩
  rw [stc_uvp]
  have hl : ∀ b, uv.ownBlock = some b → b < w1.heap.size := fun b hb => by
    obtain ⟨cs, e⟩ := own_blk ho hb
    exact (Array.getElem?_eq_some_iff.1 e).1
  obtain ⟨hc, ht⟩ := h.noted hb hun hg hl hx
  refine ⟨rfl, uv, ⟨hc, ?_, fun b hb => if_pos hb, ⟨(ahead_und fa fk G uv).ok hop, (hh.ahead hg0).ahead ((ahead_und fa fk G uv).act hop)⟩, few, few2, fewU, fewA, Nat.le_trans hb ht.size⟩, ht⟩
  have e1 : ((op, cap) :: U).reverse.map (fun x => Value.func (.func (ufn x.1)) #[] x.2) = U.reverse.map (fun x => Value.func (.func (ufn x.1)) #[] x.2) ++ [.func (.func (ufn op)) #[] cap] := by simp
  rw [e1]
  refine owns_same ho fun b hb => setRow_other _ _ _ _ fun e => ?_
  rcases hx b hb with h1 | h1
  · rw [e] at h1
    have := hun _ h1
    rw [h.osb] at this
    cases this
  · have := h.lt h.osb
    omega
end Go.Proofs.YtnjeoeekidnffaaGreat
/- Stage 14: Back. -/
namespace Go.Proofs.YtnjeoeekidnffaaGreat
open Go.RowKit SmWord Go.Maps
set_option maxRecDepth 100000

theorem ufn_enters (op : UOp) : Enters Tryz.prog (ufn op) := by
  cases op with
  | u64 A v => exact enters_of Tryz.func107 (by kernel_rfl) rfl
  | word A v => exact enters_of Tryz.func108 (by kernel_rfl) rfl
  | str A S => exact enters_of Tryz.func98 (by kernel_rfl) rfl
  | sto A p => exact enters_of Tryz.func109 (by kernel_rfl) rfl
  | wrm A b => exact enters_of Tryz.func97 (by kernel_rfl) rfl
  | des A b => exact enters_of Tryz.func97 (by kernel_rfl) rfl
  | i64 x => exact enters_of Tryz.func110 (by kernel_rfl) rfl
  | slot p k v => exact enters_of Tryz.func73 (by kernel_rfl) rfl
  | tch A k => exact enters_of Tryz.func66 (by kernel_rfl) rfl
theorem act_few {G : Gs} {m K : Nat} (op : UOp) (h : ∀ p s, G.st p = some s → s.n + (m + 1) ≤ K) : ∀ p s, (act G op).st p = some s → s.n + m ≤ K := by
  intro p s hs
  have plain : G.st p = some s → s.n + m ≤ K := fun e => by have := h p s e; omega
  cases op with
  | slot q k v =>
    unfold act at hs
    simp only at hs
    split at hs
    · rename_i t ht
      by_cases e : p = q
      · subst e
        have hs' : (if p = p then (G.st p).map _ else G.st p) = some s := hs
        rw [if_pos rfl, ht] at hs'
        simp only [Option.map_some, Option.some.injEq] at hs'
        subst hs'
        have := h p t ht
        show t.n + 1 + m ≤ K
        omega
      · exact plain ((if_neg e).symm.trans hs)
    · exact plain hs
  | _ => exact plain hs
theorem act_wn (G : Gs) (op : UOp) (A : Nat) : ((act G op).en A).wn = (G.en A).wn := by
  have se : ∀ (B : Nat) (f : Ent → Ent), (∀ e, (f e).wn = e.wn) → ((setE G B f).en A).wn = (G.en A).wn := fun B f hf => by
    show (if A = B then f (G.en A) else G.en A).wn = _
    split
    · exact hf _
    · rfl
  cases op with
  | slot q k v => unfold act; simp only; split <;> rfl
  | i64 x => rfl
  | u64 B v => exact se B (fun e => { e with no := v }) fun _ => rfl
  | word B v => exact se B (fun e => { e with ba := v }) fun _ => rfl
  | str B v => exact se B (fun e => { e with S := v }) fun _ => rfl
  | sto B v => exact se B (fun e => { e with sp := v }) fun _ => rfl
  | wrm B v => exact se B (fun e => { e with wr := v }) fun _ => rfl
  | des B v => exact se B (fun e => { e with ds := v }) fun _ => rfl
  | tch B v => exact se B (fun e => { e with wf := fun K => if K = v then false else e.wf K }) fun _ => rfl
theorem undoN_few : ∀ {U : List (UOp × Array Value)} {G : Gs} {K : Nat} (j : Nat), (∀ p s, G.st p = some s → s.n + U.length ≤ K) → ∀ p s, (undoN G U j).st p = some s → s.n + (U.length - j) ≤ K
  | U, _, _, 0, h => by cases U <;> exact h
  | [], _, _, j + 1, h => fun p s hs => by have := h p s hs; simpa using this
  | x :: U, G, K, j + 1, h => by
    intro p s hs
    have := undoN_few (U := U) (G := act G x.1) j (act_few x.1 h) p s hs
    simpa using this
theorem undoN_wn : ∀ {U : List (UOp × Array Value)} {G : Gs} {j : Nat} (A : Nat), ((undoN G U j).en A).wn = (G.en A).wn ∧ (undoN G U j).ab A = G.ab A
  | U, _, 0, _ => by cases U <;> exact ⟨rfl, rfl⟩
  | [], _, j + 1, _ => ⟨rfl, rfl⟩
  | x :: U, G, j + 1, A => by
    obtain ⟨h1, h2⟩ := undoN_wn (U := U) (G := act G x.1) (j := j) A
    exact ⟨h1.trans (act_wn _ _ _), h2.trans (by rw [act_ab])⟩
/-- What of a state's own blocks an undoing touches. -/
def UTch (G : Gs) (w W : World) : Prop := Tch (fun b => ∃ r, G.own b = some r ∧ r ≠ .und ∧ r ≠ .lgs) w W
set_option maxHeartbeats 2000000 in
/-- Back to a mark: the newest ones are undone, one behind the other. -/
theorem back_state {Z : Hp} {base K : Nat} {w : World} {G : Gs} {U : List (UOp × Array Value)} (h : StAt Z base w G U K) (hK : K ≤ 1000000) {mark : Nat} (hm : mark < U.length) :
    Calls Tryz.prog 16 #[ptr G.sb, .int .i64 (mark : Int)] w fun e w' => e = .returned (.tuple #[]) ∧ ∃ uv, StAt Z base w' (undG (undoN G U (U.length - mark)) uv) (U.drop (U.length - mark)) K ∧ Tch (fun b => (G.own b).isSome = true) w w' := by
  have hc := h.core
  have hU := h.fewU
  rcases h.und.2 with ⟨_, e0⟩ | ⟨ub, cap, row, euv, hbub, hrow, hcap, hcapm, hrs, htk⟩
  · omega
  simp only [Nat.mul_one] at hrs htk
  have hub : G.own ub = some .und := h.unb ub (by rw [euv]; rfl)
  have hlt : ∀ b r, G.own b = some r → b < w.heap.size := fun b r hb => hc.lt hb
  have rcell : ∀ i, i < U.length → ∃ x, U[U.length - 1 - i]? = some x ∧ row[i]? = some (.func (.func (ufn x.1)) #[] x.2) := fun i hi => by
    have h1 : U.reverse[i]? = U[U.length - 1 - i]? := by rw [List.getElem?_reverse hi]
    have hi2 : U.length - 1 - i < U.length := by omega
    refine ⟨U[U.length - 1 - i], by simp [hi2], ?_⟩
    have h2 : (row.toList.take U.length)[i]? = some (.func (.func (ufn (U[U.length - 1 - i]).1)) #[] (U[U.length - 1 - i]).2) := by
      rw [htk, List.getElem?_map, h1]
      simp [hi2]
    rw [List.getElem?_take_of_lt hi, Array.getElem?_toList] at h2
    exact h2
  let kf : Nat → Nat := fun i => match U[U.length - 1 - i]? with | some x => ufn x.1 | none => 0
  let caps : Nat → Array Value := fun i => match U[U.length - 1 - i]? with | some x => x.2 | none => #[]
  have hframe : ∀ (H : Gs) (W W' : World), H.own = G.own → Core Z base W H → Below w.heap.size W W' → Core Z base W' H := fun H W W' ho hC hB =>
    hC.frame (fun b o hz => by
      have h1 := hc.sub b o hz
      have h2 := hC.sub b o hz
      unfold hp at h1 h2 ⊢
      rw [hB.block b (Array.getElem?_eq_some_iff.1 h1).1]
      exact h2) fun b r hr => hB.block b (hlt b r (by rw [← ho]; exact hr))
  have ownj : ∀ j, (undoN G U j).own = G.own := fun j => undoN_own.1
  refine (back_walk (n := U.length) (mark := mark) (cap := cap) (ub := ub) (row := row) (cs := stC G) kf caps (fun j W => Core Z base W (undoN G U j) ∧ UTch G w W) hc.stc (by rw [stc_25, euv]) hrow (fun i hi => ?_) (fun i hi => ?_) hcap (by omega) hm ⟨?_, .refl _ _⟩ (fun j W W' hi hb => ⟨hframe _ _ _ (ownj j) hi.1 hb, ?_⟩) (fun j W hi => ?_) (fun j W hj hsz hi => ?_)).mono ?_
  · obtain ⟨x, h1, h2⟩ := rcell i hi
    rw [h2]
    simp only [kf, caps, h1]
  · obtain ⟨x, h1, h2⟩ := rcell i hi
    have : kf i = ufn x.1 := by simp only [kf, h1]
    rw [this]
    exact ufn_enters x.1
  · cases U <;> exact hc
  · exact ⟨hb.os.trans hi.2.os, hb.tape.trans hi.2.tape, hb.output.trans hi.2.output, Nat.le_trans hi.2.size hb.size, fun k hk hs => (hb.block k hk).trans (hi.2.block k hk hs)⟩
  · refine ⟨stC (undoN G U j), ?_, stC_len _, ?_, ?_⟩
    · have := hi.1.stc
      rw [undoN_own.2.2.1] at this
      exact this
    · rw [stc_25, undoN_own.2.1, euv]
    · exact hi.2.block ub (hlt _ _ hub) fun ⟨r, hr, hne, _⟩ => by rw [hub] at hr; injection hr with hr; exact hne hr.symm
  · have hj' : j < U.length := by omega
    have hx : U[j]? = some U[j] := by simp [hj']
    have hk : kf (U.length - 1 - j) = ufn U[j].1 := by
      simp only [kf, show U.length - 1 - (U.length - 1 - j) = j by omega, hx]
    have hcp : caps (U.length - 1 - j) = U[j].2 := by
      simp only [caps, show U.length - 1 - (U.length - 1 - j) = j by omega, hx]
    rw [hk, hcp]
    refine (undo_run hi.1 (h.hist.at hx) fun p s hs => ?_).mono ?_
    · have := undoN_few j h.few p s hs
      unfold maxLen
      omega
    · rintro e W' ⟨rfl, h1, h2⟩
      rw [← undoN_succ hx] at h1
      rw [ownj] at h2
      refine ⟨rfl, ⟨h1, hi.2.trans h2⟩, h2.size, fun b hb1 hb2 => h2.block b hb2 fun ⟨r, hr, _⟩ => by have := hlt _ _ hr; omega⟩
  · rintro e w' ⟨rfl, W, W2, cs', row', ⟨hC, hT⟩, hsz, hs', hg2, hu2, hkeep, hsize, hB⟩
    obtain ⟨G', hG'⟩ : ∃ G', undoN G U (U.length - mark) = G' := ⟨_, rfl⟩
    have gown : G'.own = G.own := hG' ▸ ownj _
    have gsb : G'.sb = G.sb := hG' ▸ undoN_own.2.2.1
    have guv : G'.uv = G.uv := hG' ▸ undoN_own.2.1
    have gna : G'.na = G.na := hG' ▸ undoN_own.2.2.2
    rw [hG'] at hC ⊢
    have hcs : cs' = stC G' := by
      have h1 := hC.stc
      rw [gsb, hs'] at h1
      simpa using h1
    rw [hcs, stc_uvp] at hB
    have hlw : ∀ b r, G.own b = some r → b < W.heap.size := fun b r hb => by have := hlt b r hb; omega
    obtain ⟨hC2, hT2⟩ := hC.noted (w1 := W2) (uv := .slice (some ⟨ub, 0, none⟩) mark cap) (Nat.le_trans h.base_le hsz) (fun b hb => by rw [guv, euv] at hb; injection hb with hb; rw [gown, ← hb]; exact hub) (by rw [guv, euv]; exact hg2) (fun b hb => by injection hb with hb; rw [← hb]; exact (Array.getElem?_eq_some_iff.1 hu2).1) (fun b hb => .inl (by rw [guv, euv]; exact hb))
    rw [gsb] at hC2 hT2
    have hne : ub ≠ G.sb := fun e => by rw [e, hc.osb] at hub; cases hub
    refine ⟨rfl, .slice (some ⟨ub, 0, none⟩) mark cap, ⟨?_, ⟨?_, .inr ⟨ub, cap, row', ?_, hbub, ?_, by rw [List.length_drop]; omega, hcapm, by rw [hsize]; omega, ?_⟩⟩, fun b hb => if_pos hb, (Hist.ahead (fa := fun _ => (bareAV 0).a) (fk := fun _ => false) (hG' ▸ h.hist.left _) (ahead_und _ _ _ _)), ?_, ?_, ?_, ?_, ?_⟩, ?_⟩
    · have ou : ∀ b r, (undG G' (.slice (some ⟨ub, 0, none⟩) mark cap)).own b = some r → b < w.heap.size := fun b r hb => by
        by_cases e : (Value.slice (some ⟨ub, 0, none⟩) mark cap).ownBlock = some b
        · injection e with e
          rw [← e]
          exact hlt _ _ hub
        · have : G'.own b = some r := (if_neg e).symm.trans hb
          rw [gown] at this
          exact hlt _ _ this
      exact hC2.frame (fun b o hz => by
        have h1 := hc.sub b o hz
        have h2 := hC2.sub b o hz
        unfold hp at h1 h2 ⊢
        rw [hB.block b (Array.getElem?_eq_some_iff.1 h1).1]
        exact h2) fun b r hr => hB.block b (ou b r hr)
    · simp
    · rw [List.length_drop, show U.length - (U.length - mark) = mark by omega]
      rfl
    · rw [hB.block ub (hlt _ _ hub), setRow_other _ _ _ _ hne]
      exact hu2
    · have e1 : row'.toList.take mark = row.toList.take mark := by
        apply List.ext_getElem?
        intro i
        by_cases hi : i < mark
        · rw [List.getElem?_take_of_lt hi, List.getElem?_take_of_lt hi, Array.getElem?_toList, Array.getElem?_toList]
          exact hkeep i hi
        · rw [List.getElem?_eq_none (by simp; omega), List.getElem?_eq_none (by simp; omega)]
      have e2 : row.toList.take mark = (row.toList.take U.length).take mark := by rw [List.take_take, Nat.min_eq_left (by omega)]
      rw [List.length_drop, show (U.length - (U.length - mark)) * 1 = mark by omega, e1, e2, htk, ← List.map_take, List.take_reverse]
    · intro p s hs
      rw [List.length_drop]
      exact undoN_few (U.length - mark) h.few p s (by rw [hG']; exact hs)
    · intro A b hb
      rw [List.length_drop]
      have h1 := (undoN_wn (U := U) (G := G) (j := U.length - mark) A)
      rw [hG'] at h1
      have h2 := h.few2 A b (h1.2 ▸ hb)
      show (G'.en A).wn + _ ≤ K
      rw [h1.1]
      omega
    · rw [List.length_drop]
      omega
    · show G'.na ≤ K
      rw [gna]
      exact h.fewA
    · have h1 := hB.size
      have h2 := hT2.size
      have := h.base_le
      omega
    · have h1 := hB.size
      have h2 := hT2.size
      refine ⟨hB.os.trans (hT2.os.trans hT.os), hB.tape.trans (hT2.tape.trans hT.tape), hB.output.trans (hT2.output.trans hT.output), by omega, fun k hk hs => ?_⟩
      rw [hB.block k hk, hT2.block k (by omega) ?_]
      · exact hT.block k hk fun ⟨r, hr, _⟩ => hs (by rw [hr]; rfl)
      · rintro (e | e)
        · exact hs (by rw [e, hc.osb]; rfl)
        · rw [gown] at e
          exact hs (by rw [e]; rfl)
end Go.Proofs.YtnjeoeekidnffaaGreat
/- Stage 14: at, of a state with what was done. -/
namespace Go.Proofs.YtnjeoeekidnffaaGreat
open Go.RowKit SmWord Go.Maps
set_option maxRecDepth 100000

/-- A world whose accounts are right. -/
structure WorldR (fa : Nat → Acc) (fk : Nat → Bool) : Prop where
  right : ∀ A, A < 2 ^ 160 → rightS (askA fa fk A).so = true
  ris : ∀ A, A < 2 ^ 160 → RisIs (askA fa fk A).so
theorem askA_ad (fa : Nat → Acc) (fk : Nat → Bool) (A : Nat) : (askA fa fk A).ad = A := by
  unfold askA
  split <;> rfl
theorem WorldOk.sub {Z Z' : Hp} {wv : Value} {fa : Nat → Acc} {fk : Nat → Bool} (h : WorldOk Z wv fa fk) (hz : Sub Z Z') : WorldOk Z' wv fa fk := fun A hA w hw =>
  (h A hA w (hz.trans hw)).mono fun e w' ⟨x, he, ha, hx, hr⟩ => ⟨x, he, ha, hx.sub (orH_sub (hz.trans (orH_left _ _)) (orH_right fun b o o' h1 h2 => by
    have h3 := hw b o h1
    unfold fr at h2
    split at h2
    · rename_i hle
      have := (Array.getElem?_eq_some_iff.1 h3).1
      omega
    · cases h2)), hr⟩
theorem AtIs.own {N : Nat} {fa : Nat → Acc} {fk : Nat → Bool} {G G' : Gs} {A ap : Nat} (h : AtIs fa fk N G A G' ap) : (∀ b r, G'.own b = some r → G.own b = some r ∨ N ≤ b) ∧ (∀ b r, G.own b = some r → G'.own b = some r) ∧ G'.uv = G.uv ∧ G'.wv = G.wv ∧ G'.sb = G.sb ∧ G'.na ≤ G.na + 1 ∧ (∀ p s, G'.st p = some s → G.st p = some s ∨ s.n = 0) ∧ ∀ B b, G'.ab B = some b → (G.ab B = some b ∧ G'.en B = G.en B) ∨ (G'.en B).wn = 0 := by
  cases h with
  | old h => exact ⟨fun _ _ h => .inl h, fun _ _ h => h, rfl, rfl, rfl, by omega, fun p s h => .inl h, fun B b hb => .inl ⟨hb, rfl⟩⟩
  | @new ap sp sm wm c qa y h hy h1 h2 h3 h4 j1 j2 j3 j4 =>
    refine ⟨fun b r hb => ?_, fun b r hb => ?_, ?_, ?_, askG_sb _ _ _, ?_, fun p s hp => ?_, fun B b hb => ?_⟩
    · have hb' : (if b = ap then some (Role.acc A) else if b = sp then some .sto else if b = sm then some (.now sp) else if b = wm then some (.warm A) else (askG G fk A).own b) = some r := hb
      by_cases n1 : b = ap
      · exact .inr (n1 ▸ j1)
      · by_cases n2 : b = sp
        · exact .inr (n2 ▸ j2)
        · by_cases n3 : b = sm
          · exact .inr (n3 ▸ j3)
          · by_cases n4 : b = wm
            · exact .inr (n4 ▸ j4)
            · rw [if_neg n1, if_neg n2, if_neg n3, if_neg n4, askG_own] at hb'
              exact .inl hb'
    · have n1 : b ≠ ap := fun e => by rw [e, h1] at hb; cases hb
      have n2 : b ≠ sp := fun e => by rw [e, h2] at hb; cases hb
      have n3 : b ≠ sm := fun e => by rw [e, h3] at hb; cases hb
      have n4 : b ≠ wm := fun e => by rw [e, h4] at hb; cases hb
      show (if b = ap then some (Role.acc A) else if b = sp then some .sto else if b = sm then some (.now sp) else if b = wm then some (.warm A) else (askG G fk A).own b) = some r
      rw [if_neg n1, if_neg n2, if_neg n3, if_neg n4, askG_own]
      exact hb
    · show (askG G fk A).uv = G.uv
      unfold askG
      split <;> rfl
    · show (askG G fk A).wv = G.wv
      unfold askG
      split <;> rfl
    · show (askG G fk A).na + 1 ≤ G.na + 1
      rw [askG_na]
      exact Nat.le_refl _
    · by_cases e : p = sp
      · right
        have hp' : (if p = sp then _ else (askG G fk A).st p) = some s := hp
        rw [if_pos e] at hp'
        injection hp' with hp'
        rw [← hp']
      · left
        have hp' : (if p = sp then _ else (askG G fk A).st p) = some s := hp
        rw [if_neg e, askG_st] at hp'
        exact hp'
    · by_cases e : B = A
      · right
        show (if B = A then ent0 y sp wm else (askG G fk A).en B).wn = 0
        rw [if_pos e]
        rfl
      · left
        have hb' : (if B = A then some ap else (askG G fk A).ab B) = some b := hb
        rw [if_neg e, askG_ab] at hb'
        refine ⟨hb', ?_⟩
        show (if B = A then ent0 y sp wm else (askG G fk A).en B) = G.en B
        rw [if_neg e, askG_en]
/-- What is so when a state has been asked for A. -/
structure AtSt (fa : Nat → Acc) (fk : Nat → Bool) (Z : Hp) (base : Nat) (w : World) (G : Gs) (U : List (UOp × Array Value)) (K A : Nat) (w' : World) (Z' : Hp) (G' : Gs) (ap : Nat) : Prop where
  st : StAt Z' base w' G' U K
  sub : Sub Z Z'
  ah : Ahead fa fk G G'
  ab : G'.ab A = some ap
  wv : G'.wv = G.wv
  sb : G'.sb = G.sb
  na : G'.na ≤ G.na + 1
  tch : Tch (fun b => (G.own b).isSome = true) w w'
  new : ∀ b r, G'.own b = some r → G.own b = some r ∨ w.heap.size ≤ b
  zn : ∀ b o, Z' b = some o → Z b = some o ∨ w.heap.size ≤ b
theorem at_state {fa : Nat → Acc} {fk : Nat → Bool} {Z : Hp} {base K : Nat} {w : World} {G : Gs} {U : List (UOp × Array Value)} (h : StAt Z base w G U K) (hw : WorldOk Z G.wv fa fk) (hr : WorldR fa fk) (A : Nat) (hA : A < 2 ^ 160) (hn : G.na + 1 ≤ K) (hK : K ≤ 1000000) :
    Calls Tryz.prog 63 #[ptr G.sb, .agg (aN A)] w fun e w' => ∃ (Z' : Hp) (G' : Gs) (ap : Nat), e = .returned (ptr ap) ∧ AtSt fa fk Z base w G U K A w' Z' G' ap := by
  have fin : ∀ {Z' : Hp} {G' : Gs} {ap : Nat} {w' : World}, AtIs fa fk w.heap.size G A G' ap → Sub Z Z' → Core Z' base w' G' → Tch (fun b => G.own b = some .stb ∨ b = G.am) w w' → (∀ b o, Z' b = some o → Z b = some o ∨ w.heap.size ≤ b) → AtSt fa fk Z base w G U K A w' Z' G' ap := fun {Z' G' ap w'} hi hz hc ht hzn => by
    obtain ⟨ha, hab⟩ := hi.ahead h.core
    obtain ⟨hnw, ho, huv, hwv, hsb, hna, hst, hen⟩ := hi.own
    have hb' : ∀ b, G.uv.ownBlock = some b → w'.heap[b]? = w.heap[b]? := fun b hb => ht.block b (h.core.lt (h.unb b hb)) fun hs => by
      rcases hs with hs | hs
      · rw [h.unb b hb] at hs
        cases hs
      · have := h.unb b hb
        rw [hs, h.core.oam] at this
        cases this
    refine ⟨⟨hc, by rw [huv]; exact owns_same h.und hb', fun b hb => ho _ _ (h.unb b (by rw [← huv]; exact hb)), (h.hist.sub hz).ahead ha, fun p s hs => ?_, fun B b hb => ?_, h.fewU, by omega, Nat.le_trans h.base_le ht.size⟩, hz, ha, hab, hwv, hsb, hna, ht.up (Nat.le_refl 0) fun b hb => ?_, hnw, hzn⟩
    · have hf := h.fewU
      rcases hst p s hs with h1 | h1
      · exact h.few p s h1
      · omega
    · have hf := h.fewU
      rcases hen B b hb with ⟨h1, h2⟩ | h1
      · rw [h2]
        exact h.few2 B b h1
      · omega
    · rcases hb with hb | hb
      · rw [hb]; rfl
      · rw [hb, h.core.oam]; rfl
  cases hap : G.ab A with
  | some ap => exact (old_walk h.core A hA hap).mono fun e w' ⟨he, hb⟩ => ⟨Z, G, ap, he, fin (.old hap) (fun _ _ h => h) (h.core.below hb) (.of_below hb) fun b o h => .inl h⟩
  | none => exact (new_walk h.core hw A hA hap (by omega) (hr.right A hA) (hr.ris A hA) (askA_ad fa fk A)).mono fun e w' ⟨Z', G', ap, he, hi, hz, hc, ht, hzn⟩ => ⟨Z', G', ap, he, fin hi hz hc ht hzn⟩
end Go.Proofs.YtnjeoeekidnffaaGreat
