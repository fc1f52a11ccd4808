/- Stage 14: parts of a state turned. -/
import Derived.Test.YtnjeoeekidnffaaGreatNh
namespace Go.Proofs.YtnjeoeekidnffaaGreat
open Go.RowKit SmWord Go.Maps
set_option maxRecDepth 100000

theorem putAt_right (l1 l2 : List Value) (o : Nat) (vs : List Value) : putAt (l1 ++ l2) (l1.length + o) vs = l1 ++ putAt l2 o vs := by
  unfold putAt
  rw [List.take_append, List.drop_append, List.take_of_length_le (by omega), List.drop_of_length_le (by omega)]
  simp only [Nat.add_sub_cancel_left, show l1.length + o + vs.length - l1.length = o + vs.length by omega, List.nil_append, List.append_assoc]
section
variable (e : Ent)
theorem entc_no (v : Nat) : putAt (entC e) 27 [.int .u64 (v : Int)] = entC { e with no := v } := by
  have := putAt_right (acs e.x) (.int .u64 (e.no : Int) :: (wa e.ba).toList ++ [.string e.S, .pointer (some ⟨e.sp, 0, none⟩), .bool e.wr, .map (some e.wm), .bool e.ds]) 0 [.int .u64 (v : Int)]
  rw [acs_len] at this
  exact this
theorem entc_ba (v : Nat) : putAt (entC e) 28 (wa v).toList = entC { e with ba := v } := by
  have := putAt_right (acs e.x) (.int .u64 (e.no : Int) :: (wa e.ba).toList ++ [.string e.S, .pointer (some ⟨e.sp, 0, none⟩), .bool e.wr, .map (some e.wm), .bool e.ds]) 1 (wa v).toList
  rw [acs_len] at this
  refine this.trans ?_
  have h1 : (wa e.ba).toList.length = 4 := by simp [wa_size]
  have h2 : (wa v).toList.length = 4 := by simp [wa_size]
  unfold entC acct putAt
  rw [h2]
  simp only [List.cons_append, List.take_succ_cons, List.take_zero, show 1 + 4 = 4 + 1 from rfl, List.drop_succ_cons, List.nil_append]
  rw [List.drop_append_of_le_length (by omega), List.drop_of_length_le (by omega)]
  rfl
theorem entc_five (j : Nat) (v : Value) : putAt (entC e) (32 + j) [v] = acs e.x ++ (.int .u64 (e.no : Int) :: (wa e.ba).toList ++ putAt [.string e.S, .pointer (some ⟨e.sp, 0, none⟩), .bool e.wr, .map (some e.wm), .bool e.ds] j [v]) := by
  have h1 : (wa e.ba).toList.length = 4 := by simp [wa_size]
  have := putAt_right (acs e.x ++ .int .u64 (e.no : Int) :: (wa e.ba).toList) [.string e.S, .pointer (some ⟨e.sp, 0, none⟩), .bool e.wr, .map (some e.wm), .bool e.ds] j [v]
  rw [List.length_append, acs_len, List.length_cons, h1] at this
  unfold entC acct
  simpa only [List.append_assoc, List.cons_append] using this
theorem entc_S (S : ByteArray) : putAt (entC e) 32 [.string S] = entC { e with S := S } := entc_five e 0 _
theorem entc_sp (p : Nat) : putAt (entC e) 33 [.pointer (some ⟨p, 0, none⟩)] = entC { e with sp := p } := entc_five e 1 _
theorem entc_wr (b : Bool) : putAt (entC e) 34 [.bool b] = entC { e with wr := b } := entc_five e 2 _
theorem entc_ds (b : Bool) : putAt (entC e) 36 [.bool b] = entC { e with ds := b } := entc_five e 4 _
end
def setE (G : Gs) (A : Nat) (f : Ent → Ent) : Gs := { G with en := fun B => if B = A then f (G.en B) else G.en B }
def setP (G : Gs) (p : Nat) (f : Sto → Sto) : Gs := { G with st := fun q => if q = p then (G.st q).map f else G.st q }
section
variable {Z : Hp} {base : Nat} {w : World} {G : Gs}
/-- An account turned, its warm slots apart. -/
theorem Core.turnA (h : Core Z base w G) {A b : Nat} (hab : G.ab A = some b) (f : Ent → Ent) (hx : (f (G.en A)).x = (G.en A).x) (hwm : (f (G.en A)).wm = (G.en A).wm) (hwn : (f (G.en A)).wn = (G.en A).wn) (hwf : (f (G.en A)).wf = (G.en A).wf)
    (hno : (f (G.en A)).no < B) (hba : (f (G.en A)).ba < M) (hsp : (G.st (f (G.en A)).sp).isSome = true) : Core Z base (w.setRow b (entC (f (G.en A))).toArray) (setE G A f) := by
  obtain ⟨hA, hob, hok⟩ := h.acc A b hab
  have se : ∀ B, B ≠ A → (setE G A f).en B = G.en B := fun B hB => if_neg hB
  have sa : (setE G A f).en A = f (G.en A) := if_pos rfl
  exact
  { h with
    sub := fun b' o ho => by
      have hne : b' ≠ b := fun e => by rw [e, h.zs _ _ hob] at ho; cases ho
      unfold hp
      rw [setRow_other _ _ _ _ hne]
      exact h.sub b' o ho
    hold := fun b' r hr => by
      by_cases e : b' = b
      · have hr' : G.own b' = some r := hr
        rw [e, hob] at hr'
        injection hr' with hr'
        subst hr'
        rw [e]
        show (w.setRow b (entC (f (G.en A))).toArray).heap[b]? = some (.cells (entC ((setE G A f).en A)).toArray 120)
        rw [sa]
        exact blk_row (h.acb hab)
      · have h1 : holds (w.setRow b (entC (f (G.en A))).toArray) G b' r := (h.hold b' r hr).same (setRow_other _ _ _ _ e)
        cases r with
        | stb => exact h1
        | amap => exact h1
        | acc B =>
          have hB : B ≠ A := fun e' => by
            have := h.accs b' B hr
            rw [e', hab] at this
            injection this with this
            exact e this.symm
          show (w.setRow b (entC (f (G.en A))).toArray).heap[b']? = some (.cells (entC ((setE G A f).en B)).toArray 120)
          rw [se B hB]
          exact h1
        | sto => exact h1
        | now p => exact h1
        | warm B =>
          by_cases hB : B = A
          · subst hB
            show mapIsW _ b' ((setE G B f).en B).wn (wset ((setE G B f).en B).wf)
            rw [sa, hwn, hwf]
            exact h1
          · show mapIsW _ b' ((setE G A f).en B).wn (wset ((setE G A f).en B).wf)
            rw [se B hB]
            exact h1
        | lgs => exact h1
        | und => exact h1
    acc := fun B b' hb => by
      obtain ⟨h1, h2, h3⟩ := h.acc B b' hb
      refine ⟨h1, h2, ?_⟩
      by_cases hB : B = A
      · subst hB
        rw [sa]
        exact ⟨by rw [hx]; exact h3.z, by rw [hx]; exact h3.ad, hno, hba, hsp, by rw [hwm]; exact h3.wm⟩
      · rw [se B hB]
        exact ⟨h3.z, h3.ad, h3.no, h3.ba, h3.sp, h3.wm⟩ }
/-- A map of one's own has been written. -/
theorem Core.stored (h : Core Z base w G) {p n : Nat} {s : Sto} {g : Nat → Option Nat} (hs : G.st p = some s) {w' : World} (hm : mapIsW w' s.m n (fun k => (g k).map wd)) (hg : w.grownBy w' (some s.m)) (hM : ∀ k v, g k = some v → v < M) :
    Core Z base w' (setP G p fun s => { s with g := g, n := n }) ∧ Tch (fun b => b = s.m) w w' := by
  obtain ⟨hop, hom, hok⟩ := h.sto p s hs
  have k1 : ∀ b, b < w.heap.size → b ≠ s.m → w'.heap[b]? = w.heap[b]? := fun b hb hn => hg.block b hb fun e => hn (by cases e; rfl)
  have ss : ∀ q, q ≠ p → (setP G p fun s => { s with g := g, n := n }).st q = G.st q := fun q hq => if_neg hq
  have sp : (setP G p fun s => { s with g := g, n := n }).st p = some { s with g := g, n := n } := by
    show (if p = p then (G.st p).map _ else G.st p) = _
    rw [if_pos rfl, hs]
    rfl
  refine ⟨?_, ⟨hg.os, hg.tape, hg.output, hg.size, k1⟩⟩
  exact
  { h with
    sub := fun b o ho => by
      have h2 := h.sub b o ho
      unfold hp
      rw [k1 b (Array.getElem?_eq_some_iff.1 h2).1 fun e => by rw [e, h.zs _ _ hom] at ho; cases ho]
      exact h2
    hold := fun b r hr => by
      have hr' : G.own b = some r := hr
      by_cases e : b = s.m
      · rw [e, hom] at hr'
        injection hr' with hr'
        subst hr'
        rw [e]
        exact ⟨_, sp, hm⟩
      · have h1 := (h.hold b r hr).same (k1 b (h.lt hr') e)
        cases r with
        | stb => exact h1
        | amap => exact h1
        | acc B => exact h1
        | sto =>
          obtain ⟨s1, hs1, hs2⟩ := h1
          by_cases hb : b = p
          · subst hb
            rw [hs] at hs1
            injection hs1 with hs1
            subst hs1
            exact ⟨_, sp, hs2⟩
          · exact ⟨s1, (ss b hb).trans hs1, hs2⟩
        | now q =>
          obtain ⟨s1, hs1, hs2⟩ := h1
          by_cases hq : q = p
          · subst hq
            exact absurd (h.uniq b s.m _ hr' hom rfl) e
          · exact ⟨s1, (ss q hq).trans hs1, hs2⟩
        | warm B => exact h1
        | lgs => exact h1
        | und => exact h1
    acc := fun B b' hb => by
      obtain ⟨h1, h2, h3⟩ := h.acc B b' hb
      refine ⟨h1, h2, ⟨h3.z, h3.ad, h3.no, h3.ba, ?_, h3.wm⟩⟩
      by_cases e : (G.en B).sp = p
      · show ((setP G p fun s => { s with g := g, n := n }).st (G.en B).sp).isSome = true
        rw [e, sp]
        rfl
      · show ((setP G p fun s => { s with g := g, n := n }).st (G.en B).sp).isSome = true
        rw [ss _ e]
        exact h3.sp
    sto := fun q s1 hq => by
      by_cases e : q = p
      · subst e
        rw [sp] at hq
        injection hq with hq
        subst hq
        exact ⟨hop, hom, ⟨hok.sl, hok.sM, hok.right, hM, hok.at'⟩⟩
      · rw [ss q e] at hq
        exact h.sto q s1 hq }
/-- Slots of an account have become warm, or not. -/
theorem Core.warmed (h : Core Z base w G) {A b n : Nat} {f : Nat → Bool} (hab : G.ab A = some b) {w' : World} (hm : mapIsW w' (G.en A).wm n (wset f)) (hg : w.grownBy w' (some (G.en A).wm)) :
    Core Z base w' (setE G A fun e => { e with wf := f, wn := n }) ∧ Tch (fun b => b = (G.en A).wm) w w' := by
  obtain ⟨hA, hob, hok⟩ := h.acc A b hab
  have hom := hok.wm
  have k1 : ∀ b, b < w.heap.size → b ≠ (G.en A).wm → w'.heap[b]? = w.heap[b]? := fun b hb hn => hg.block b hb fun e => hn (by cases e; rfl)
  have se : ∀ B, B ≠ A → (setE G A fun e => { e with wf := f, wn := n }).en B = G.en B := fun B hB => if_neg hB
  have sa : (setE G A fun e => { e with wf := f, wn := n }).en A = { G.en A with wf := f, wn := n } := if_pos rfl
  refine ⟨?_, ⟨hg.os, hg.tape, hg.output, hg.size, k1⟩⟩
  exact
  { h with
    sub := fun b o ho => by
      have h2 := h.sub b o ho
      unfold hp
      rw [k1 b (Array.getElem?_eq_some_iff.1 h2).1 fun e => by rw [e, h.zs _ _ hom] at ho; cases ho]
      exact h2
    hold := fun b' r hr => by
      have hr' : G.own b' = some r := hr
      by_cases e : b' = (G.en A).wm
      · rw [e, hom] at hr'
        injection hr' with hr'
        subst hr'
        rw [e]
        show mapIsW w' (G.en A).wm ((setE G A fun e => { e with wf := f, wn := n }).en A).wn (wset ((setE G A fun e => { e with wf := f, wn := n }).en A).wf)
        rw [sa]
        exact hm
      · have h1 := (h.hold b' r hr).same (k1 b' (h.lt hr') e)
        cases r with
        | stb => exact h1
        | amap => exact h1
        | acc B =>
          by_cases hB : B = A
          · subst hB
            show w'.heap[b']? = some (.cells (entC ((setE G B fun e => { e with wf := f, wn := n }).en B)).toArray 120)
            rw [sa]
            exact h1
          · show w'.heap[b']? = some (.cells (entC ((setE G A fun e => { e with wf := f, wn := n }).en B)).toArray 120)
            rw [se B hB]
            exact h1
        | sto => exact h1
        | now q => exact h1
        | warm B =>
          have hB : B ≠ A := fun e' => by
            subst e'
            exact e (h.uniq b' _ _ hr' hom rfl)
          show mapIsW w' b' ((setE G A fun e => { e with wf := f, wn := n }).en B).wn (wset ((setE G A fun e => { e with wf := f, wn := n }).en B).wf)
          rw [se B hB]
          exact h1
        | lgs => exact h1
        | und => exact h1
    acc := fun B b' hb => by
      obtain ⟨h1, h2, h3⟩ := h.acc B b' hb
      refine ⟨h1, h2, ?_⟩
      by_cases hB : B = A
      · subst hB
        rw [sa]
        exact ⟨h3.z, h3.ad, h3.no, h3.ba, h3.sp, h3.wm⟩
      · rw [se B hB]
        exact ⟨h3.z, h3.ad, h3.no, h3.ba, h3.sp, h3.wm⟩ }
end
end Go.Proofs.YtnjeoeekidnffaaGreat
/- Stage 14: what is undone. -/
namespace Go.Proofs.YtnjeoeekidnffaaGreat
open Go.RowKit SmWord Go.Maps
set_option maxRecDepth 100000

/-- What is undone: what an account, what is refunded, a slot, a warm slot, the logs were. -/
inductive UOp where
  | u64 (A v : Nat) | word (A v : Nat) | str (A : Nat) (S : ByteArray) | sto (A p : Nat) | wrm (A : Nat) (b : Bool) | des (A : Nat) (b : Bool) | i64 (x : Int) | slot (p k v : Nat) | tch (A k : Nat)
def act (G : Gs) : UOp → Gs
  | .u64 A v => setE G A fun e => { e with no := v }
  | .word A v => setE G A fun e => { e with ba := v }
  | .str A S => setE G A fun e => { e with S := S }
  | .sto A p => setE G A fun e => { e with sp := p }
  | .wrm A b => setE G A fun e => { e with wr := b }
  | .des A b => setE G A fun e => { e with ds := b }
  | .i64 x => { G with rf := x }
  | .slot p k v => match G.st p with
    | some s => setP G p fun _ => { s with g := setS s.so s.g k v, n := s.n + 1 }
    | none => G
  | .tch A k => setE G A fun e => { e with wf := fun K => if K = k then false else e.wf K }
def ufn : UOp → Nat
  | .u64 _ _ => 107
  | .word _ _ => 108
  | .str _ _ => 98
  | .sto _ _ => 109
  | .wrm _ _ => 97
  | .des _ _ => 97
  | .i64 _ => 110
  | .slot _ _ _ => 73
  | .tch _ _ => 66
def ptr (b : Nat) : Value := .pointer (some ⟨b, 0, none⟩)
/-- What a closure has captured, and that it can be called. -/
def UOk (Z : Hp) (G : Gs) : UOp → Array Value → Prop
  | .u64 A v, cap => v < B ∧ ∃ b c0 c1, G.ab A = some b ∧ cap = #[ptr c0, ptr c1] ∧ Z c0 = some (.cells #[.int .u64 (v : Int)] 42) ∧ Z c1 = some (.cells #[.pointer (some ⟨b, 27, none⟩)] 139)
  | .word A v, cap => v < M ∧ ∃ b c0 c1, G.ab A = some b ∧ cap = #[ptr c0, ptr c1] ∧ Z c0 = some (.cells (wa v) 44) ∧ Z c1 = some (.cells #[.pointer (some ⟨b, 28, none⟩)] 142)
  | .str A S, cap => ∃ b c0 c1, G.ab A = some b ∧ cap = #[ptr c0, ptr c1] ∧ Z c0 = some (.cells #[.string S] 9) ∧ Z c1 = some (.cells #[.pointer (some ⟨b, 32, none⟩)] 127)
  | .sto A p, cap => (G.st p).isSome = true ∧ ∃ b c0 c1, G.ab A = some b ∧ cap = #[ptr c0, ptr c1] ∧ Z c0 = some (.cells #[ptr p] 117) ∧ Z c1 = some (.cells #[.pointer (some ⟨b, 33, none⟩)] 144)
  | .wrm A x, cap => ∃ b c0 c1, G.ab A = some b ∧ cap = #[ptr c0, ptr c1] ∧ Z c0 = some (.cells #[.bool x] 4) ∧ Z c1 = some (.cells #[.pointer (some ⟨b, 34, none⟩)] 122)
  | .des A x, cap => ∃ b c0 c1, G.ab A = some b ∧ cap = #[ptr c0, ptr c1] ∧ Z c0 = some (.cells #[.bool x] 4) ∧ Z c1 = some (.cells #[.pointer (some ⟨b, 36, none⟩)] 122)
  | .i64 x, cap => ∃ c0 c1, cap = #[ptr c0, ptr c1] ∧ Z c0 = some (.cells #[.int .i64 x] 2) ∧ Z c1 = some (.cells #[.pointer (some ⟨G.sb, 23, none⟩)] 154)
  | .slot p k v, cap => (G.st p).isSome = true ∧ k < M ∧ v < M ∧ ∃ c0 c1 c2, cap = #[ptr c0, ptr c1, ptr c2] ∧ Z c0 = some (.cells #[ptr p] 117) ∧ Z c1 = some (.cells (wa k) 44) ∧ Z c2 = some (.cells (wa v) 44)
  | .tch A k, cap => k < M ∧ ∃ b c0 c1, G.ab A = some b ∧ cap = #[ptr c0, ptr c1] ∧ Z c0 = some (.cells #[.map (some (G.en A).wm)] 118) ∧ Z c1 = some (.cells (wa k) 44)
section
variable {Z : Hp} {base : Nat} {w : World} {G : Gs}
theorem Core.cell0 (h : Core Z base w G) {c : Nat} {v : Value} {T : TypeId} (hz : Z c = some (.cells #[v] T)) : w.cell? ⟨c, 0, none⟩ = some v := blk_cell (h.sub c _ hz) rfl
theorem setS_M {so : List (Nat × Nat)} {g : Nat → Option Nat} {k v : Nat} (hg : ∀ k v, g k = some v → v < M) (hv : v < M) : ∀ k' v', setS so g k v k' = some v' → v' < M := fun k' v' h => by
  unfold setS at h
  split at h
  · split at h
    · cases h
    · injection h with h
      omega
  · exact hg _ _ h
theorem wset_none (f : Nat → Bool) (k : Nat) : updN (wset f) k = wset fun K => if K = k then false else f K := by
  funext K
  unfold updN wset
  by_cases e : K = k
  · simp [e]
  · simp [e]
/-- What is touched as something is undone. -/
theorem undo_run (h : Core Z base w G) {op : UOp} {cap : Array Value} (hop : UOk Z G op cap) (hn : ∀ p s, G.st p = some s → s.n < maxLen) :
    Calls Tryz.prog (ufn op) cap w fun e w' => e = .returned (.tuple #[]) ∧ Core Z base w' (act G op) ∧ Tch (fun b => ∃ r, G.own b = some r ∧ r ≠ .und ∧ r ≠ .lgs) w w' := by
  cases op with
  | u64 A v =>
    obtain ⟨hv, b, c0, c1, hab, rfl, z0, z1⟩ := hop
    obtain ⟨hA, hob, hok⟩ := h.acc A b hab
    refine (undo_u64 c0 c1 b 27 v (entC (G.en A)) _ w (h.cell0 z0) (h.cell0 z1) (h.acb hab) (by rw [entC_len]; decide)).mono ?_
    rintro e w' ⟨rfl, rfl⟩
    rw [entc_no]
    exact ⟨rfl, h.turnA hab (fun e => { e with no := v }) rfl rfl rfl rfl hv hok.ba hok.sp, tch_setRow ⟨_, hob, nofun, nofun⟩ _⟩
  | word A v =>
    obtain ⟨hv, b, c0, c1, hab, rfl, z0, z1⟩ := hop
    obtain ⟨hA, hob, hok⟩ := h.acc A b hab
    refine (undo_word c0 c1 b 28 v (entC (G.en A)) _ w (h.sub _ _ z0) (h.cell0 z1) (h.acb hab) (by rw [entC_len]; decide)).mono ?_
    rintro e w' ⟨rfl, rfl⟩
    rw [entc_ba]
    exact ⟨rfl, h.turnA hab (fun e => { e with ba := v }) rfl rfl rfl rfl hok.no hv hok.sp, tch_setRow ⟨_, hob, nofun, nofun⟩ _⟩
  | str A S =>
    obtain ⟨b, c0, c1, hab, rfl, z0, z1⟩ := hop
    obtain ⟨hA, hob, hok⟩ := h.acc A b hab
    refine (undo_str c0 c1 b 32 S (entC (G.en A)) _ w (h.cell0 z0) (h.cell0 z1) (h.acb hab) (by rw [entC_len]; decide)).mono ?_
    rintro e w' ⟨rfl, rfl⟩
    rw [entc_S]
    exact ⟨rfl, h.turnA hab (fun e => { e with S := S }) rfl rfl rfl rfl hok.no hok.ba hok.sp, tch_setRow ⟨_, hob, nofun, nofun⟩ _⟩
  | sto A p =>
    obtain ⟨hp, b, c0, c1, hab, rfl, z0, z1⟩ := hop
    obtain ⟨hA, hob, hok⟩ := h.acc A b hab
    refine (undo_sto c0 c1 b 33 _ (entC (G.en A)) _ w (h.cell0 z0) (h.cell0 z1) (h.acb hab) (by rw [entC_len]; decide)).mono ?_
    rintro e w' ⟨rfl, rfl⟩
    rw [entc_sp]
    exact ⟨rfl, h.turnA hab (fun e => { e with sp := p }) rfl rfl rfl rfl hok.no hok.ba hp, tch_setRow ⟨_, hob, nofun, nofun⟩ _⟩
  | wrm A x =>
    obtain ⟨b, c0, c1, hab, rfl, z0, z1⟩ := hop
    obtain ⟨hA, hob, hok⟩ := h.acc A b hab
    refine (undo_bool c0 c1 b 34 x (entC (G.en A)) _ w (h.cell0 z0) (h.cell0 z1) (h.acb hab) (by rw [entC_len]; decide)).mono ?_
    rintro e w' ⟨rfl, rfl⟩
    rw [entc_wr]
    exact ⟨rfl, h.turnA hab (fun e => { e with wr := x }) rfl rfl rfl rfl hok.no hok.ba hok.sp, tch_setRow ⟨_, hob, nofun, nofun⟩ _⟩
  | des A x =>
    obtain ⟨b, c0, c1, hab, rfl, z0, z1⟩ := hop
    obtain ⟨hA, hob, hok⟩ := h.acc A b hab
    refine (undo_bool c0 c1 b 36 x (entC (G.en A)) _ w (h.cell0 z0) (h.cell0 z1) (h.acb hab) (by rw [entC_len]; decide)).mono ?_
    rintro e w' ⟨rfl, rfl⟩
    rw [entc_ds]
    exact ⟨rfl, h.turnA hab (fun e => { e with ds := x }) rfl rfl rfl rfl hok.no hok.ba hok.sp, tch_setRow ⟨_, hob, nofun, nofun⟩ _⟩
  | i64 x =>
    obtain ⟨c0, c1, rfl, z0, z1⟩ := hop
    refine (undo_i64 c0 c1 G.sb 23 x (stC G) _ w (h.cell0 z0) (h.cell0 z1) h.stc (by rw [stC_len]; decide)).mono ?_
    rintro e w' ⟨rfl, rfl⟩
    rw [putAt_one (by rw [stC_len]; decide), stc_rf]
    exact ⟨rfl, h.turnS G.mi G.ms x G.lv G.uv h.mi, tch_setRow ⟨_, h.osb, nofun, nofun⟩ _⟩
  | slot p k v =>
    obtain ⟨hp, hk, hv, c0, c1, c2, rfl, z0, z1, z2⟩ := hop
    obtain ⟨s, hs⟩ := Option.isSome_iff_exists.1 hp
    obtain ⟨hop, hom, hok⟩ := h.sto p s hs
    refine (undo_set (h.stoAt hs) hk hv (hn p s hs) (h.cell0 z0) (h.sub _ _ z1) (h.sub _ _ z2)).mono ?_
    rintro e w' ⟨rfl, hm, hg⟩
    have h1 := h.stored hs hm hg (setS_M hok.gM hv)
    refine ⟨rfl, ?_, h1.2.up (Nat.le_refl 0) fun b hb => ⟨.now p, hb ▸ hom, nofun, nofun⟩⟩
    have e1 : act G (.slot p k v) = setP G p fun s' => { s' with g := setS s.so s.g k v, n := s.n + 1 } := by
      unfold act setP
      simp only [hs]
      congr 1
      funext q
      by_cases e : q = p
      · subst e
        rw [if_pos rfl, if_pos rfl, hs]
        rfl
      · rw [if_neg e, if_neg e]
    rw [e1]
    exact h1.1
  | tch A k =>
    obtain ⟨hk, b, c0, c1, hab, rfl, z0, z1⟩ := hop
    obtain ⟨hA, hob, hok⟩ := h.acc A b hab
    have hm0 : mapIsW w (G.en A).wm (G.en A).wn (wset (G.en A).wf) := h.hold _ _ hok.wm
    refine (undo_slot hm0 hk (h.cell0 z0) (h.sub _ _ z1)).mono ?_
    rintro e w' ⟨rfl, hm, hg⟩
    rw [wset_none] at hm
    have h1 := h.warmed hab hm hg
    have e1 : act G (.tch A k) = setE G A fun e => { e with wf := fun K => if K = k then false else (G.en A).wf K, wn := (G.en A).wn } := by
      unfold act setE
      simp only
      congr 1
      funext B
      by_cases e : B = A
      · subst e
        simp only [↓reduceIte]
      · rw [if_neg e, if_neg e]
    rw [e1]
    exact ⟨rfl, h1.1, h1.2.up (Nat.le_refl 0) fun b hb => ⟨.warm A, hb ▸ hok.wm, nofun, nofun⟩⟩
end
end Go.Proofs.YtnjeoeekidnffaaGreat
/- Stage 14: a state with more accounts than another. -/
namespace Go.Proofs.YtnjeoeekidnffaaGreat
open Go.RowKit SmWord Go.Maps
set_option maxRecDepth 100000

/-- What was never touched. -/
structure FreshA (fa : Nat → Acc) (fk : Nat → Bool) (G : Gs) (A : Nat) : Prop where
  x : (G.en A).x.a = askA fa fk A
  no : (G.en A).no = (askA fa fk A).no
  ba : (G.en A).ba = (askA fa fk A).ba
  S : (G.en A).S = strC (askA fa fk A).co
  wr : (G.en A).wr = false
  wf : (G.en A).wf = fun _ => false
  ds : (G.en A).ds = false
  st : ∃ s, G.st (G.en A).sp = some s ∧ s.so = (askA fa fk A).so ∧ ∀ k, s.g k = none
/-- The same stored. -/
def Like (s s' : Sto) : Prop := s'.so = s.so ∧ ∀ k, stoV s.so s'.g k = stoV s.so s.g k
theorem Like.refl (s : Sto) : Like s s := ⟨rfl, fun _ => rfl⟩
theorem Like.trans {a b c : Sto} (h : Like a b) (k : Like b c) : Like a c := ⟨k.1.trans h.1, fun j => by have := k.2 j; rw [h.1] at this; exact this.trans (h.2 j)⟩
/-- What one state has, the other has too; what that has more was never touched. -/
structure Ahead (fa : Nat → Acc) (fk : Nat → Bool) (G G' : Gs) : Prop where
  old : ∀ A b, G.ab A = some b → G'.ab A = some b ∧ G'.en A = { G.en A with wn := (G'.en A).wn }
  sto : ∀ p s, G.st p = some s → ∃ s', G'.st p = some s' ∧ Like s s'
  new : ∀ A b, G.ab A = none → G'.ab A = some b → FreshA fa fk G' A ∧ G.st (G'.en A).sp = none
  sb : G'.sb = G.sb
  rf : G'.rf = G.rf
section
variable {fa : Nat → Acc} {fk : Nat → Bool} {G G' G'' : Gs} {Z Z' : Hp} {op : UOp} {cap : Array Value}
theorem act_ab (G : Gs) (op : UOp) : (act G op).ab = G.ab := by cases op <;> first | rfl | (unfold act; simp only; split <;> rfl)
theorem act_sb (G : Gs) (op : UOp) : (act G op).sb = G.sb := by cases op <;> first | rfl | (unfold act; simp only; split <;> rfl)
theorem act_own (G : Gs) (op : UOp) : (act G op).own = G.own := by cases op <;> first | rfl | (unfold act; simp only; split <;> rfl)
theorem act_uv (G : Gs) (op : UOp) : (act G op).uv = G.uv := by cases op <;> first | rfl | (unfold act; simp only; split <;> rfl)
theorem act_na (G : Gs) (op : UOp) : (act G op).na = G.na := by cases op <;> first | rfl | (unfold act; simp only; split <;> rfl)
theorem Ahead.refl (fa : Nat → Acc) (fk : Nat → Bool) (G : Gs) : Ahead fa fk G G := ⟨fun A b h => ⟨h, rfl⟩, fun p s h => ⟨s, h, .refl s⟩, (fun A b h k => by rw [h] at k; cases k), rfl, rfl⟩
theorem FreshA.same {A : Nat} (h : FreshA fa fk G A) (he : G'.en A = { G.en A with wn := (G'.en A).wn }) (hs : ∀ s, G.st (G.en A).sp = some s → ∃ s', G'.st (G.en A).sp = some s' ∧ s'.so = s.so ∧ ∀ k, s.g k = none → s'.g k = none) : FreshA fa fk G' A := by
  obtain ⟨s, h1, h2, h3⟩ := h.st
  obtain ⟨s', k1, k2, k3⟩ := hs s h1
  have sp : (G'.en A).sp = (G.en A).sp := by rw [he]
  exact ⟨by rw [he]; exact h.x, by rw [he]; exact h.no, by rw [he]; exact h.ba, by rw [he]; exact h.S, by rw [he]; exact h.wr, by rw [he]; exact h.wf, by rw [he]; exact h.ds, ⟨s', by rw [sp]; exact k1, k2.trans h2, fun k => k3 k (h3 k)⟩⟩
theorem ahead_setE {A b : Nat} (h : Ahead fa fk G G') (hab : G.ab A = some b) (f : Ent → Ent) (hf : ∀ e n, f { e with wn := n } = { f e with wn := (f { e with wn := n }).wn }) : Ahead fa fk (setE G A f) (setE G' A f) where
  old := fun B b' hb => by
    obtain ⟨h1, h2⟩ := h.old B b' hb
    refine ⟨h1, ?_⟩
    by_cases e : B = A
    · subst e
      rw [show (setE G' B f).en B = f (G'.en B) from if_pos rfl, show (setE G B f).en B = f (G.en B) from if_pos rfl, h2]
      exact hf _ _
    · rw [show (setE G' A f).en B = G'.en B from if_neg e, show (setE G A f).en B = G.en B from if_neg e]
      exact h2
  sto := h.sto
  new := fun B b' hb hb' => by
    obtain ⟨h1, h2⟩ := h.new B b' hb hb'
    have e : B ≠ A := fun e => by rw [e, show (setE G A f).ab A = G.ab A from rfl, hab] at hb; cases hb
    have se : (setE G' A f).en B = G'.en B := if_neg e
    refine ⟨h1.same (by rw [se]) fun s hs => ⟨s, hs, rfl, fun k hk => hk⟩, ?_⟩
    rw [se]
    exact h2
  sb := h.sb
  rf := h.rf
theorem Ahead.act (h : Ahead fa fk G G') (hop : UOk Z G op cap) : Ahead fa fk (act G op) (act G' op) := by
  cases op with
  | u64 A v => obtain ⟨_, b, _, _, hab, _⟩ := hop; exact ahead_setE h hab (fun e => { e with no := v }) fun _ _ => rfl
  | word A v => obtain ⟨_, b, _, _, hab, _⟩ := hop; exact ahead_setE h hab (fun e => { e with ba := v }) fun _ _ => rfl
  | str A v => obtain ⟨b, _, _, hab, _⟩ := hop; exact ahead_setE h hab (fun e => { e with S := v }) fun _ _ => rfl
  | sto A v => obtain ⟨_, b, _, _, hab, _⟩ := hop; exact ahead_setE h hab (fun e => { e with sp := v }) fun _ _ => rfl
  | wrm A v => obtain ⟨b, _, _, hab, _⟩ := hop; exact ahead_setE h hab (fun e => { e with wr := v }) fun _ _ => rfl
  | des A v => obtain ⟨b, _, _, hab, _⟩ := hop; exact ahead_setE h hab (fun e => { e with ds := v }) fun _ _ => rfl
  | tch A v => obtain ⟨_, b, _, _, hab, _⟩ := hop; exact ahead_setE h hab (fun e => { e with wf := fun K => if K = v then false else e.wf K }) fun _ _ => rfl
  | i64 x => exact ⟨h.old, h.sto, fun A b hb hb' => by
      obtain ⟨h1, h2⟩ := h.new A b hb hb'
      exact ⟨⟨h1.x, h1.no, h1.ba, h1.S, h1.wr, h1.wf, h1.ds, h1.st⟩, h2⟩, h.sb, rfl⟩
  | slot p k v =>
    obtain ⟨hp, _⟩ := hop
    obtain ⟨s, hs⟩ := Option.isSome_iff_exists.1 hp
    obtain ⟨s', hs', hl⟩ := h.sto p s hs
    have e1 : Go.Proofs.YtnjeoeekidnffaaGreat.act G (.slot p k v) = setP G p fun _ => { s with g := setS s.so s.g k v, n := s.n + 1 } := by unfold Go.Proofs.YtnjeoeekidnffaaGreat.act; simp only [hs]
    have e2 : Go.Proofs.YtnjeoeekidnffaaGreat.act G' (.slot p k v) = setP G' p fun _ => { s' with g := setS s'.so s'.g k v, n := s'.n + 1 } := by unfold Go.Proofs.YtnjeoeekidnffaaGreat.act; simp only [hs']
    rw [e1, e2]
    have sp : ∀ (G : Gs) (s s1 : Sto), G.st p = some s → (setP G p fun _ => s1).st p = some s1 := fun G s s1 h => by
      show (if p = p then (G.st p).map _ else G.st p) = some s1
      rw [if_pos rfl, h]
      rfl
    have sn : ∀ (G : Gs) (s1 : Sto) q, q ≠ p → (setP G p fun _ => s1).st q = G.st q := fun G s1 q hq => if_neg hq
    refine ⟨h.old, fun q t hq => ?_, fun A b hb hb' => ?_, h.sb, h.rf⟩
    · by_cases e : q = p
      · subst e
        rw [sp G s _ hs] at hq
        injection hq with hq
        subst hq
        refine ⟨_, sp G' s' _ hs', hl.1, fun j => ?_⟩
        show stoV s.so (setS s'.so s'.g k v) j = stoV s.so (setS s.so s.g k v) j
        rw [hl.1, setS_val, setS_val, hl.2]
      · rw [sn _ _ _ e] at hq
        obtain ⟨t', h1, h2⟩ := h.sto q t hq
        exact ⟨t', (sn _ _ _ e).trans h1, h2⟩
    · obtain ⟨h1, h2⟩ := h.new A b hb hb'
      have hne : (G'.en A).sp ≠ p := fun e => by rw [e, hs] at h2; cases h2
      refine ⟨h1.same (by rfl) fun t ht => ⟨t, (sn _ _ _ hne).trans ht, rfl, fun k hk => hk⟩, ?_⟩
      exact (sn _ _ _ hne).trans h2
theorem Ahead.ok (h : Ahead fa fk G G') (hop : UOk Z G op cap) : UOk Z G' op cap := by
  cases op with
  | u64 A v => obtain ⟨h0, b, c0, c1, hab, h1⟩ := hop; exact ⟨h0, b, c0, c1, (h.old A b hab).1, h1⟩
  | word A v => obtain ⟨h0, b, c0, c1, hab, h1⟩ := hop; exact ⟨h0, b, c0, c1, (h.old A b hab).1, h1⟩
  | str A v => obtain ⟨b, c0, c1, hab, h1⟩ := hop; exact ⟨b, c0, c1, (h.old A b hab).1, h1⟩
  | sto A p =>
    obtain ⟨h0, b, c0, c1, hab, h1⟩ := hop
    obtain ⟨s, hs⟩ := Option.isSome_iff_exists.1 h0
    obtain ⟨s', hs', _⟩ := h.sto p s hs
    exact ⟨by rw [hs']; rfl, b, c0, c1, (h.old A b hab).1, h1⟩
  | wrm A v => obtain ⟨b, c0, c1, hab, h1⟩ := hop; exact ⟨b, c0, c1, (h.old A b hab).1, h1⟩
  | des A v => obtain ⟨b, c0, c1, hab, h1⟩ := hop; exact ⟨b, c0, c1, (h.old A b hab).1, h1⟩
  | i64 x =>
    obtain ⟨c0, c1, h0, h1, h2⟩ := hop
    exact ⟨c0, c1, h0, h1, by rw [h.sb]; exact h2⟩
  | slot p k v =>
    obtain ⟨h0, h1⟩ := hop
    obtain ⟨s, hs⟩ := Option.isSome_iff_exists.1 h0
    obtain ⟨s', hs', _⟩ := h.sto p s hs
    exact ⟨by rw [hs']; rfl, h1⟩
  | tch A k =>
    obtain ⟨h0, b, c0, c1, hab, h1, h2⟩ := hop
    obtain ⟨h3, h4⟩ := h.old A b hab
    exact ⟨h0, b, c0, c1, h3, h1, by rw [h4]; exact h2⟩
theorem UOk.sub (hop : UOk Z G op cap) (hz : Sub Z Z') : UOk Z' G op cap := by
  cases op with
  | u64 A v => obtain ⟨h0, b, c0, c1, hab, h1, h2, h3⟩ := hop; exact ⟨h0, b, c0, c1, hab, h1, hz _ _ h2, hz _ _ h3⟩
  | word A v => obtain ⟨h0, b, c0, c1, hab, h1, h2, h3⟩ := hop; exact ⟨h0, b, c0, c1, hab, h1, hz _ _ h2, hz _ _ h3⟩
  | str A v => obtain ⟨b, c0, c1, hab, h1, h2, h3⟩ := hop; exact ⟨b, c0, c1, hab, h1, hz _ _ h2, hz _ _ h3⟩
  | sto A p => obtain ⟨h0, b, c0, c1, hab, h1, h2, h3⟩ := hop; exact ⟨h0, b, c0, c1, hab, h1, hz _ _ h2, hz _ _ h3⟩
  | wrm A v => obtain ⟨b, c0, c1, hab, h1, h2, h3⟩ := hop; exact ⟨b, c0, c1, hab, h1, hz _ _ h2, hz _ _ h3⟩
  | des A v => obtain ⟨b, c0, c1, hab, h1, h2, h3⟩ := hop; exact ⟨b, c0, c1, hab, h1, hz _ _ h2, hz _ _ h3⟩
  | i64 x => obtain ⟨c0, c1, h1, h2, h3⟩ := hop; exact ⟨c0, c1, h1, hz _ _ h2, hz _ _ h3⟩
  | slot p k v => obtain ⟨h0, h1, h2, c0, c1, c2, h3, h4, h5, h6⟩ := hop; exact ⟨h0, h1, h2, c0, c1, c2, h3, hz _ _ h4, hz _ _ h5, hz _ _ h6⟩
  | tch A k => obtain ⟨h0, b, c0, c1, hab, h1, h2, h3⟩ := hop; exact ⟨h0, b, c0, c1, hab, h1, hz _ _ h2, hz _ _ h3⟩
/-- What was done can be undone, the newest first. -/
def Hist (Z : Hp) : Gs → List (UOp × Array Value) → Prop
  | _, [] => True
  | G, x :: U => UOk Z G x.1 x.2 ∧ Hist Z (Go.Proofs.YtnjeoeekidnffaaGreat.act G x.1) U
theorem Hist.ahead : ∀ {U : List (UOp × Array Value)} {G G' : Gs}, Hist Z G U → Ahead fa fk G G' → Hist Z G' U
  | [], _, _, _, _ => trivial
  | _ :: _, _, _, h, k => ⟨k.ok h.1, Hist.ahead h.2 (k.act h.1)⟩
theorem Hist.sub (hz : Sub Z Z') : ∀ {U : List (UOp × Array Value)} {G : Gs}, Hist Z G U → Hist Z' G U
  | [], _, _ => trivial
  | _ :: _, _, h => ⟨h.1.sub hz, Hist.sub hz h.2⟩
/-- What is left when the newest ones are undone. -/
def undoN : Gs → List (UOp × Array Value) → Nat → Gs
  | G, _, 0 => G
  | G, [], _ => G
  | G, x :: U, j + 1 => undoN (Go.Proofs.YtnjeoeekidnffaaGreat.act G x.1) U j
theorem undoN_succ : ∀ {U : List (UOp × Array Value)} {G : Gs} {j : Nat} {x : UOp × Array Value}, U[j]? = some x → undoN G U (j + 1) = Go.Proofs.YtnjeoeekidnffaaGreat.act (undoN G U j) x.1
  | [], _, _, _, h => by cases h
  | y :: U, G, 0, x, h => by cases h; cases U <;> rfl
  | y :: U, G, j + 1, x, h => undoN_succ (U := U) (G := Go.Proofs.YtnjeoeekidnffaaGreat.act G y.1) (by simpa using h)
theorem Hist.at : ∀ {U : List (UOp × Array Value)} {G : Gs} {j : Nat} {x : UOp × Array Value}, Hist Z G U → U[j]? = some x → UOk Z (undoN G U j) x.1 x.2
  | [], _, _, _, _, h => by cases h
  | y :: U, G, 0, x, h, k => by cases k; exact h.1
  | y :: U, G, j + 1, x, h, k => Hist.at (U := U) (G := Go.Proofs.YtnjeoeekidnffaaGreat.act G y.1) h.2 (by simpa using k)
theorem Hist.left : ∀ {U : List (UOp × Array Value)} {G : Gs} (j : Nat), Hist Z G U → Hist Z (undoN G U j) (U.drop j)
  | _, _, 0, h => by cases ‹List (UOp × Array Value)› <;> exact h
  | [], _, j + 1, _ => trivial
  | y :: U, G, j + 1, h => Hist.left (U := U) (G := Go.Proofs.YtnjeoeekidnffaaGreat.act G y.1) j h.2
theorem undoN_own : ∀ {U : List (UOp × Array Value)} {G : Gs} {j : Nat}, (undoN G U j).own = G.own ∧ (undoN G U j).uv = G.uv ∧ (undoN G U j).sb = G.sb ∧ (undoN G U j).na = G.na
  | _, _, 0 => by cases ‹List (UOp × Array Value)› <;> exact ⟨rfl, rfl, rfl, rfl⟩
  | [], _, j + 1 => ⟨rfl, rfl, rfl, rfl⟩
  | y :: U, G, j + 1 => by
    obtain ⟨h1, h2, h3, h4⟩ := undoN_own (U := U) (G := Go.Proofs.YtnjeoeekidnffaaGreat.act G y.1) (j := j)
    exact ⟨h1.trans (act_own _ _), h2.trans (act_uv _ _), h3.trans (act_sb _ _), h4.trans (act_na _ _)⟩
end
end Go.Proofs.YtnjeoeekidnffaaGreat
