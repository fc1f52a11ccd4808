/- What add leaves: a store with one version more. -/
import Derived.Test.YtdgenbidgieojaaG6
import Derived.Deep.RegionHeldLaw
namespace Go.Proofs.Ytdgenbidgieojaa
open Go.RowKit SmWord
set_option maxRecDepth 100000

theorem Up.congr {par par' : Nat → Nat} {v x : Nat} (h : Up par v x) : (∀ y, y ≤ v → par' y = par y) → Up par' v x := by
  induction h with
  | here => exact fun _ => .here _
  | @step v x hp _ ih =>
    intro he
    refine .step (by rw [he v (Nat.le_refl _)]; exact hp) ?_
    rw [he v (Nat.le_refl _)]
    exact ih fun y hy => he y (by omega)
theorem near_congr {par par' : Nat → Nat} {acc acc' : Nat → Option Nat} : ∀ v, (∀ y, y ≤ v → par' y = par y ∧ acc' y = acc y) → near par' acc' v = near par acc v := by
  intro v
  induction v using Nat.strongRecOn with
  | _ v ih =>
    intro he
    obtain ⟨e1, e2⟩ := he v (Nat.le_refl _)
    cases ha : acc v with
    | some b => rw [near_some ha, near_some (e2.trans ha)]
    | none =>
      by_cases hp : par v < v
      · rw [near_none ha hp, near_none (e2.trans ha) (by rw [e1]; exact hp), e1]
        exact ih _ hp fun y hy => he y (by omega)
      · rw [near_stop ha hp, near_stop (e2.trans ha) (by rw [e1]; exact hp)]
theorem flat_congr {α β : Type} {f g : α → List β} : ∀ l : List α, (∀ x ∈ l, f x = g x) → l.flatMap f = l.flatMap g
  | [], _ => rfl
  | x :: l, h => by rw [List.flatMap_cons, List.flatMap_cons, h x (by simp), flat_congr l fun y hy => h y (by simp [hy])]
/-- What add answers and leaves. -/
def AddIs (base : Nat) (Z : Hp) (w : World) (sb : Nat) (g : Gh) (L : Nat → List Acc) (p : Nat) (l : List Acc) (w' : World) : Prop :=
  ∃ Z' g', StoreAt base Z' w' sb g' (fun v => if v = g.n then putAll (L p) l else L v) ∧ g'.n = g.n + 1 ∧ (∀ v, g'.par v = if v = g.n then p else g.par v) ∧ Sub Z Z' ∧ (∀ b, Z b = none → Z' b ≠ none → w.heap.size ≤ b) ∧
    (∀ b, b < w.heap.size → ¬ soft g sb b → w'.heap[b]? = w.heap[b]?) ∧ (∀ b, soft g' sb b → soft g sb b ∨ w.heap.size ≤ b) ∧ Below base w w'
def gAdd (g : Gh) (p x m0 c : Nat) (d : Int) (fb : Nat → Option Nat) (X : Nat → AV) (v' : Value) (sl : Nat → Value) (s0 : Nat) : Gh :=
  ⟨g.n + 1, fun v => if v = g.n then p else g.par v, fun v => if v = g.n then x else g.far v, fun v => if v = g.n then d else g.dep v, fun v A => if v = g.n then fb A else g.acc v A, fun v => if v = g.n then m0 else g.mp v, v', g.mb, c, sl, fun b => if s0 ≤ b then X b else g.X b⟩
theorem seqA_gAdd (g : Gh) (p x m0 c : Nat) (d : Int) (fb : Nat → Option Nat) (X : Nat → AV) (v' : Value) (sl : Nat → Value) (s0 A : Nat) (left : Nat → Bool) (hl : left A = false) : seqA (gAdd g p x m0 c d fb X v' sl s0) A = seq2 g fb left A := by
  unfold seqA seq2 gAdd
  simp only [List.range_succ, List.filter_append, hl, Bool.not_false, Bool.and_true]
  congr 1
  · apply List.filter_congr
    intro v hv
    have : v ≠ g.n := by have := List.mem_range.1 hv; omega
    simp [this]
  · cases h : (fb A).isSome <;> simp [h]
theorem add_done {base : Nat} {Z : Hp} {w w1 w2 w5 w7 : World} {sb : Nat} {g : Gh} {L : Nat → List Acc} (h : StoreAt base Z w sb g L) {p x m0 c m : Nat} {d : Int} {l : List Acc} {fb : Nat → Option Nat} {X : Nat → AV} {left : Nat → Bool} {sl : Nat → Value} {v' : Value} {arr : Array Value} {vb vc : Nat}
    (hpn : p < g.n) (hn : g.n < 1048576) (P : P1 w w1 m0 l m fb X) (hm : l.length = m) (hm1 : m ≤ 1000000) (hr : ∀ a ∈ l, rightA a = true) (hra : ∀ a ∈ l, a.ad < 2 ^ 160) (q : P2 base w1 w2 g fb m0 m w1.heap.size left 0 c sl) (hl0 : ∀ A, A < 2 ^ 160 → left A = false) (hx : Up g.par p x) (b5 : Below w2.heap.size w2 w5)
    (hvs : g.vs = .slice (some ⟨vb, 0, none⟩) g.n vc) (h7 : w7.ownsRow base 86 4 v' (g.n + 1) ((List.range g.n).flatMap (vcs g) ++ [.int .i64 (p : Int), .int .i64 (x : Int), .int .i64 d, .map (some m0)])) (g7 : (w5.alloc (.cells arr 86)).grownBy w7 (some vb))
    (l7 : v'.ownBlock = some vb ∨ v'.ownBlock = some (w5.alloc (.cells arr 86)).heap.size) : AddIs base Z w sb g L p l (w7.setCell ⟨sb, 0, none⟩ v') := by
  have z1 := P.below.size
  have z2 := q.below.size
  have z5 := b5.size
  have za : (w5.alloc (.cells arr 86)).heap.size = w5.heap.size + 1 := by simp
  have z7 := g7.size
  rw [za] at z7 l7
  have hsbl : sb < w.heap.size := (Array.getElem?_eq_some_iff.1 h.blk).1
  have hsoft : ∀ b, soft g sb b → b < w.heap.size := fun b hb => h.softlt hb
  have hvbs : soft g sb vb := .inr (.inl (by rw [hvs]; rfl))
  have hmbs : soft g sb g.mb := .inr (.inr (.inl rfl))
  have hsbs : soft g sb sb := .inl rfl
  have hsls : ∀ A b, A < 2 ^ 160 → seqA g A ≠ [] → (g.sl A).ownBlock = some b → soft g sb b := fun A b hA hs hb => .inr (.inr (.inr ⟨A, hA, hs, hb⟩))
  -- from w2 on only the versions' row and the store's own cell are written
  have hlate : ∀ b, b < w2.heap.size → b ≠ vb → b ≠ sb → (w7.setCell ⟨sb, 0, none⟩ v').heap[b]? = w2.heap[b]? := fun b hb h1 h2 => by
    rw [Below.heap_setCell _ _ _ _ h2, g7.block b (by omega) (by simpa using h1), Below.heap_alloc _ _ _ (by omega), b5.block b hb]
  -- what isn't soft, and lay at w1, stays
  have hkeep : ∀ b, b < w1.heap.size → ¬ soft g sb b → (w7.setCell ⟨sb, 0, none⟩ v').heap[b]? = w1.heap[b]? := fun b hb hs => by
    rw [hlate b (by omega) (fun e => hs (e ▸ hvbs)) (fun e => hs (e ▸ hsbs))]
    exact q.keep b hb (fun e => hs (e ▸ hmbs)) (fun A hA hsq e => hs (hsls A b hA hsq e))
  have hold : ∀ b, b < w.heap.size → ¬ soft g sb b → (w7.setCell ⟨sb, 0, none⟩ v').heap[b]? = w.heap[b]? := fun b hb hs => by rw [hkeep b (by omega) hs, P.below.block b hb]
  -- the store's own cell, and the block of versions, at w2 and w7
  have hsb2 := P2.stay2 h P.below q h.blk (by decide)
  have hsbvb : sb ≠ vb := fun e => by
    obtain ⟨cs, hcs⟩ := own_block h.row (by rw [hvs]; rfl : g.vs.ownBlock = some vb)
    rw [← e, h.blk] at hcs
    simp at hcs
  have hsb7 : w7.heap[sb]? = some (.cells #[g.vs, .map (some g.mb)] 90) := by
    rw [g7.block sb (by omega) (by simpa using hsbvb), Below.heap_alloc _ _ _ (by omega), b5.block sb (by omega)]
    exact hsb2
  have hsq : ∀ A, A < 2 ^ 160 → seqA (gAdd g p x m0 c d fb X v' sl w.heap.size) A = seq2 g fb left A := fun A hA => seqA_gAdd _ _ _ _ _ _ _ _ _ _ _ _ _ (hl0 A hA)
  let Z' : Hp := fun b => if w.heap.size ≤ b ∧ b < w1.heap.size then w1.heap[b]? else Z b
  have hZlt : ∀ b o, Z b = some o → b < w.heap.size := fun b o hb => (Array.getElem?_eq_some_iff.1 (h.sub b o hb)).1
  have hZZ : Sub Z Z' := fun b o hb => by
    have := hZlt b o hb
    show (if w.heap.size ≤ b ∧ b < w1.heap.size then w1.heap[b]? else Z b) = some o
    rw [if_neg (by omega)]
    exact hb
  have hZnew : ∀ b o, w.heap.size ≤ b → w1.heap[b]? = some o → Z' b = some o := fun b o hb ho => by
    show (if w.heap.size ≤ b ∧ b < w1.heap.size then w1.heap[b]? else Z b) = some o
    rw [if_pos ⟨hb, (Array.getElem?_eq_some_iff.1 ho).1⟩]
    exact ho
  have hnsoft : ∀ b o, Z b = some o → ¬ soft g sb b := fun b o hb hs => by rw [h.zm b hs] at hb; cases hb
  have hZsub : Sub Z' (hp (w7.setCell ⟨sb, 0, none⟩ v')) := fun b o hb => by
    have hb' : (if w.heap.size ≤ b ∧ b < w1.heap.size then w1.heap[b]? else Z b) = some o := hb
    split at hb'
    · rename_i hc
      exact (hkeep b hc.2 (fun hs => by have := hsoft b hs; omega)).trans hb'
    · exact (hold b (hZlt b o hb') (hnsoft b o hb')).trans (h.sub b o hb')
  obtain ⟨vb0, vc0, cur0, e0, hvbase, hvblk, _⟩ := h.row_block
  rw [hvs] at e0
  cases e0
  have hvb2 := P2.stay2 h P.below q hvblk (by decide)
  obtain ⟨es, clock, hmbk⟩ := map_block q.set.map
  have hmbvb : g.mb ≠ vb := fun e => by rw [e, hvb2] at hmbk; cases hmbk
  have hmbsb : g.mb ≠ sb := fun e => by rw [e, hsb2] at hmbk; cases hmbk
  have hset : SetAt base (w7.setCell ⟨sb, 0, none⟩ v') g.mb c (seq2 g fb left) sl := by
    refine q.set.frame (hlate _ q.set.map.lt hmbvb hmbsb) fun A b hA hs hb => ?_
    obtain ⟨cs, hcs⟩ := own_block (q.set.sls A hA hs) hb
    refine hlate b (Array.getElem?_eq_some_iff.1 hcs).1 ?_ ?_
    · rintro rfl
      rw [hvb2] at hcs
      simp at hcs
    · rintro rfl
      rw [hsb2] at hcs
      simp at hcs
  have hset' := hset.congr (seq' := seqA (gAdd g p x m0 c d fb X v' sl w.heap.size)) hsq
  have hown7 : (w7.setCell ⟨sb, 0, none⟩ v').ownsRow base 86 4 v' (g.n + 1) ((List.range g.n).flatMap (vcs g) ++ [.int .i64 (p : Int), .int .i64 (x : Int), .int .i64 d, .map (some m0)]) :=
    own_same h7 fun b hb => Below.heap_setCell _ _ _ _ (own_not h7 hsb7 (by decide) b hb)
  have hvcs : (List.range g.n).flatMap (vcs g) ++ [.int .i64 (p : Int), .int .i64 (x : Int), .int .i64 d, .map (some m0)] = (List.range (g.n + 1)).flatMap (vcs (gAdd g p x m0 c d fb X v' sl w.heap.size)) := by
    rw [List.range_succ, List.flatMap_append]
    congr 1
    · refine flat_congr _ fun v hv => ?_
      have hne : v ≠ g.n := by have := List.mem_range.1 hv; omega
      unfold vcs gAdd
      simp [hne]
    · have h0 : g.n ≠ 0 := by have := h.n1; omega
      unfold vcs gAdd
      simp [h0, i64v]
  have hsoft' : ∀ b, soft (gAdd g p x m0 c d fb X v' sl w.heap.size) sb b → soft g sb b ∨ w1.heap.size ≤ b := fun b hb => by
    rcases hb with rfl | hb | rfl | ⟨A, hA, hs, hb⟩
    · exact .inl hsbs
    · have hb' : v'.ownBlock = some b := hb
      rcases l7 with l | l
      · rw [l] at hb'; cases hb'; exact .inl hvbs
      · rw [l] at hb'; cases hb'; exact .inr (by omega)
    · exact .inl hmbs
    · rw [hsq A hA] at hs
      rcases q.loc A b hA hs hb with ⟨q1, q2⟩ | q1
      · exact .inl (hsls A b hA q1 q2)
      · exact .inr q1
  have hparn : ∀ v, v < g.n → g.par v < g.n := fun v hv => (farle h.farUp h.parlt h.par0 hv).2
  have hupn : ∀ {v y : Nat}, v < g.n → Up g.par v y → Up (gAdd g p x m0 c d fb X v' sl w.heap.size).par v y := fun hv hu => hu.congr fun z hz => by
    unfold gAdd
    simp [show z ≠ g.n by omega]
  have hnear : ∀ v A, v < g.n → near (gAdd g p x m0 c d fb X v' sl w.heap.size).par (fun v => (gAdd g p x m0 c d fb X v' sl w.heap.size).acc v A) v = near g.par (fun v => g.acc v A) v := fun v A hv => near_congr v fun z hz => by
    unfold gAdd
    simp [show z ≠ g.n by omega]
  have hXold : ∀ v A b, v < g.n → A < 2 ^ 160 → g.acc v A = some b → (gAdd g p x m0 c d fb X v' sl w.heap.size).X b = g.X b := fun v A b hv hA hb => by
    have := hZlt b _ (h.accs v A b hv hA hb).1
    unfold gAdd
    simp [show ¬ w.heap.size ≤ b by omega]
  have hlook : ∀ v A, v < g.n → A < 2 ^ 160 → lookA (L v) A = (near (gAdd g p x m0 c d fb X v' sl w.heap.size).par (fun v => (gAdd g p x m0 c d fb X v' sl w.heap.size).acc v A) v).map fun b => ((gAdd g p x m0 c d fb X v' sl w.heap.size).X b).a := fun v A hv hA => by
    rw [hnear v A hv, h.look v A hv hA]
    cases hb : near g.par (fun v => g.acc v A) v with
    | none => rfl
    | some b =>
      obtain ⟨y, hy, he⟩ := near_mem h.parlt v hv b hb
      simp only [Option.map_some]
      rw [hXold y A b (by omega) hA he]
  have hlen : l.take m = l := List.take_of_length_le (by omega)
  have hlast : ∀ A, A < 2 ^ 160 → (fb A).map (fun b => (X b).a) = lastA l A := fun A hA => by rw [P.last A hA, hlen]
  have hXnew : ∀ A b, A < 2 ^ 160 → fb A = some b → (gAdd g p x m0 c d fb X v' sl w.heap.size).X b = X b := fun A b hA hb => by
    unfold gAdd
    simp [(P.acc A b hA hb).2.1]
  refine ⟨Z', gAdd g p x m0 c d fb X v' sl w.heap.size, ?_, rfl, fun v => rfl, hZZ, fun b hb hb' => ?_, hold, fun b hb => ?_, ?_⟩
  · exact {
      sub := hZsub
      bsb := h.bsb
      blk := blk_set hsb7 v'
      row := by
        rw [hvcs] at hown7
        exact hown7
      bmb := h.bmb
      setm := hset'.map
      cntle := by
        have := q.cle
        have := h.cntle
        show c ≤ (g.n + 1) * 1000000
        omega
      sls := hset'.sls
      dist := hset'.dist
      maps := fun v h1 h2 => by
        by_cases e : v = g.n
        · subst e
          refine ⟨m, fun w' hw' => ?_⟩
          obtain ⟨es', clock', hmk⟩ := map_block P.map
          have h3 := hw' _ _ (hZnew m0 _ P.m0 hmk)
          have h4 := P.map.same (w' := w') (h3.trans hmk.symm)
          have e1 : accF (gAdd g p x m0 c d fb X v' sl w.heap.size) g.n = fun A => (fb A).map ptrB := by
            funext A
            unfold accF gAdd
            simp only [if_true]
            rfl
          rw [e1]
          unfold gAdd
          simp only [if_true]
          exact h4
        · have h2' : v < g.n := by have : v < g.n + 1 := h2; omega
          obtain ⟨c', hc'⟩ := h.maps v h1 h2'
          refine ⟨c', fun w' hw' => ?_⟩
          have := hc' w' (hZZ.trans hw')
          unfold accF gAdd
          simp only [e, if_false]
          exact this
      accs := fun v A b h1 hA hb => by
        by_cases e : v = g.n
        · subst e
          have hb' : fb A = some b := by
            unfold gAdd at hb
            simpa using hb
          obtain ⟨g1, g2, g3, g4⟩ := P.acc A b hA hb'
          rw [hXnew A b hA hb']
          refine ⟨hZnew b _ g2 g1, g3.sub fun b' o ho => ?_, g4, ?_⟩
          · unfold frx at ho
            split at ho
            · rename_i hc
              exact hZnew b' o hc.1 ho
            · cases ho
          · have h1 := hlast A hA
            rw [hb'] at h1
            have h2 := (lookA_some (show lookA l.reverse A = some (X b).a from h1.symm)).1
            exact hr _ (by simpa using h2)
        · have h1' : v < g.n := by have : v < g.n + 1 := h1; omega
          have hb' : g.acc v A = some b := by
            unfold gAdd at hb
            simpa [e] using hb
          obtain ⟨g1, g2, g3, g4⟩ := h.accs v A b h1' hA hb'
          rw [hXold v A b h1' hA hb']
          exact ⟨hZZ b _ g1, g2.sub hZZ, g3, g4⟩
      zm := fun b hb => by
        have hzl : ∀ b, (¬ (w.heap.size ≤ b ∧ b < w1.heap.size)) → Z b = none → Z' b = none := fun b h1 h2 => by
          show (if w.heap.size ≤ b ∧ b < w1.heap.size then w1.heap[b]? else Z b) = none
          rw [if_neg h1]
          exact h2
        rcases hsoft' b hb with hs | hs
        · have := hsoft b hs
          exact hzl b (by omega) (h.zm b hs)
        · refine hzl b (by omega) ?_
          cases hz : Z b with
          | none => rfl
          | some o => have := hZlt b o hz; omega
      n1 := by show 1 ≤ g.n + 1; omega
      nM := by show g.n + 1 ≤ 1048576; omega
      par0 := by
        have h0 : (0 : Nat) ≠ g.n := by have := h.n1; omega
        unfold gAdd
        simp [h0, h.par0]
      parlt := fun v h1 h2 => by
        have h2' : v < g.n + 1 := h2
        unfold gAdd
        by_cases e : v = g.n
        · simp [e]; omega
        · simp only [e, if_false]
          exact h.parlt v h1 (by omega)
      farUp := fun v h1 => by
        have h1' : v < g.n + 1 := h1
        by_cases e : v = g.n
        · have e1 : (gAdd g p x m0 c d fb X v' sl w.heap.size).par v = p := by unfold gAdd; simp [e]
          have e2 : (gAdd g p x m0 c d fb X v' sl w.heap.size).far v = x := by unfold gAdd; simp [e]
          rw [e1, e2]
          exact hupn hpn hx
        · have e1 : (gAdd g p x m0 c d fb X v' sl w.heap.size).par v = g.par v := by unfold gAdd; simp [e]
          have e2 : (gAdd g p x m0 c d fb X v' sl w.heap.size).far v = g.far v := by unfold gAdd; simp [e]
          rw [e1, e2]
          exact hupn (hparn v (by omega)) (h.farUp v (by omega))
      acc0 := fun A => by
        have h0 : (0 : Nat) ≠ g.n := by have := h.n1; omega
        unfold gAdd
        simp [h0, h.acc0 A]
      L0 := by
        have h0 : (0 : Nat) ≠ g.n := by have := h.n1; omega
        simp [h0, h.L0]
      look := fun v A h1 hA => by
        have h1' : v < g.n + 1 := h1
        by_cases e : v = g.n
        · subst e
          simp only [if_true]
          rw [putAll_look A (h.srt p hpn), ← hlast A hA]
          cases hf : fb A with
          | some b =>
            rw [near_some (acc := fun v => (gAdd g p x m0 c d fb X v' sl w.heap.size).acc v A) (show (gAdd g p x m0 c d fb X v' sl w.heap.size).acc g.n A = some b by unfold gAdd; simpa using hf)]
            simp only [Option.map_some, Option.some_or]
            rw [hXnew A b hA hf]
          | none =>
            have e1 : (gAdd g p x m0 c d fb X v' sl w.heap.size).par g.n = p := by unfold gAdd; simp
            rw [near_none (acc := fun v => (gAdd g p x m0 c d fb X v' sl w.heap.size).acc v A) (show (gAdd g p x m0 c d fb X v' sl w.heap.size).acc g.n A = none by unfold gAdd; simpa using hf) (by rw [e1]; exact hpn), e1]
            simp only [Option.map_none, Option.none_or]
            exact hlook p A hpn hA
        · simp only [e, if_false]
          exact hlook v A (by omega) hA
      srt := fun v h1 => by
        have h1' : v < g.n + 1 := h1
        by_cases e : v = g.n
        · simp only [e, if_true]; exact putAll_srt (h.srt p hpn)
        · simp only [e, if_false]; exact h.srt v (by omega)
      adL := fun v h1 a ha => by
        have h1' : v < g.n + 1 := h1
        by_cases e : v = g.n
        · simp only [e, if_true] at ha
          rcases putAll_mem ha with ha | ha
          · exact hra a ha
          · exact h.adL p hpn a ha
        · simp only [e, if_false] at ha
          exact h.adL v (by omega) a ha }
  · have hb2 : (if w.heap.size ≤ b ∧ b < w1.heap.size then w1.heap[b]? else Z b) ≠ none := hb'
    split at hb2
    · rename_i hc; exact hc.1
    · exact absurd hb hb2
  · rcases hsoft' b hb with hs | hs
    · exact .inl hs
    · exact .inr (by omega)
  · have bl := q.bl
    have b1 : Below base w w1 := P.below.mono (Nat.le_trans h.bsb (by omega))
    have b2 : Below base w w5 := (b1.trans q.below).trans (b5.mono (by omega))
    have b3 := (b2.alloc (by omega) (.cells arr 86)).grown g7 (by omega) (fun k hk => by cases hk; exact hvbase)
    exact b3.setCell h.bsb _
theorem cells_at {w : World} {b : Nat} {cs : List Value} {t : TypeId} (h : w.heap[b]? = some (.cells cs.toArray t)) : ∀ j u, cs[j]? = some u → w.cell? ((⟨b, 0, none⟩ : Addr).add j) = some u := fun j u hj => by
  rw [Addr.add_mid, Nat.zero_add]
  exact blk_cell h (by simpa using hj)
end Go.Proofs.Ytdgenbidgieojaa
/- The program's add. -/
namespace Go.Proofs.Ytdgenbidgieojaa
open Go.RowKit SmWord
set_option maxRecDepth 100000

section
variable {base : Nat} {Z : Hp} {w : World} {sb : Nat} {g : Gh} {L : Nat → List Acc}
set_option maxHeartbeats 4000000 in
theorem add_walk (h : StoreAt base Z w sb g L) (p : Nat) (hp' : p < g.n) (lv : Value) (l : List AV) (hl : AccsZ (hp w) lv l) (hll : l.length ≤ 1000000) (hr : ∀ x ∈ l, rightA x.a = true) (hn : g.n < 1048576) :
    Calls Try.prog 42 #[.pointer (some ⟨sb, 0, none⟩), .int .i64 (p : Int), lv] w fun e w' => e = .returned (.int .i64 (g.n : Int)) ∧ AddIs base Z w sb g L p (l.map AV.a) w' := by
  have HH := Lib.hid h
  have c0 := h.cell0
  obtain ⟨vb, vc, cur, evs, -, -, -, -, -⟩ := h.row_block
  rw [evs] at c0
  obtain ⟨A, c, rfl, hnc, hcM, hA, hcells⟩ := hl.row.one (fun x _ => acs_len x)
  have HX := Lib.hid hl.each
  have hs : ∀ x, (acs x).toArray.size = 27 := fun x => by simp [acs_len]
  have hs2 := aN_size
  have mm := run_makeMapH
  generalize hN : l.length = m at *
  have HN := Lib.hid hN
  have HC : Hid (0 < m → ∃ b off, A = some ⟨b, off, none⟩ ∧ ∀ i x, l[i]? = some x → rng (hp w) b (off + i * 27) (acs x)) := Lib.hid fun hn => by
    obtain ⟨b, off, e, _, hi⟩ := hcells hn
    exact ⟨b, off, e, hi⟩
  have HP0 := Lib.hid (P1.start w (l.map AV.a))
  obtain ⟨W, hW⟩ : ∃ W, w.alloc (.map #[] 0) = W := ⟨_, rfl⟩
  rw [hW] at HP0
  have HRt := Lib.hid hr
  have HEv := Lib.hid evs
  clear hcells hl hN h hr evs
  go_enter Try.func42, Try.ntmps42
  go_wp2_with fail
  clear hW mm
  go_loopw [23] (fun i wr => ∃ k : Nat, k ≤ m ∧ i = .int .i64 k ∧ Hid (∃ fb X, P1 w wr w.heap.size (l.map AV.a) k fb X)) (fun i _ => m - (intOf i).toNat)
  case atStart => exact ⟨0, Nat.zero_le _, rfl, Lib.hid ⟨_, _, HP0.out⟩⟩
  case round =>
    obtain ⟨k, hk, rfl, HE⟩ := hrel
    obtain ⟨fb, X, P⟩ := HE.out
    have HP := Lib.hid P
    clear HE P
    by_cases hlt : k < m
    · obtain ⟨b, off, rfl, hi⟩ := HC.out (by omega)
      obtain ⟨x, hx⟩ : ∃ x, l[k]? = some x := ⟨l[k]'(by rw [HN.out]; exact hlt), by simp⟩
      have r1 := ((hi k _ hx).sub (hp_below HP.out.below)).at
      have HXx := Lib.hid (((HX.out x (List.mem_of_getElem? hx)).sub (hp_below HP.out.below)))
      have one := HXx.out.ones
      have HXg := Lib.hid hx
      clear hx hi
      have sn := fun w => store_newA w x one
      obtain ⟨W2, hW2⟩ : ∃ W2, wr.alloc (.cells (acs x).toArray 39) = W2 := ⟨_, rfl⟩
      have g0 : W2.heap[wr.heap.size]? = some (.cells (acs x).toArray 39) := hW2 ▸ heap_alloc_new _ _
      have HW2 : Hid (Below wr.heap.size wr W2) := Lib.hid (hW2 ▸ (Below.refl _ _).alloc (Nat.le_refl _) _)
      have r2 := (rng_block g0).at
      have KR := Lib.hid (copied_walk x W2 (HXx.out.sub (hp_below HW2.out)))
      have G0 := Lib.hid g0
      clear g0
      unfold aval at KR
      go_wp2_with (first
        | (refine wpList_load_mid rfl 39 _ rfl b _ rfl (acs x) _ r1 Try.underlying39 rfl (infoAcs _) ?_)
        | (refine wpList_load_mid rfl 39 _ rfl wr.heap.size 0 rfl (acs x) _ r2 Try.underlying39 rfl (infoAcs _) ?_)
        | (refine wpList_alloc_row rfl 39 rfl _ zeroAcc ?_)
        | (go_at_call 51
           refine KR.out.mono ?_
           rintro e w3 ⟨r, s, rfl, ha, b3⟩
           have one2 := ha.ones
           have sn2 := fun w => store_newA w ⟨x.a, r, s⟩ one2
           obtain ⟨W4, hW4⟩ : ∃ W4, w3.alloc (.cells (acs ⟨x.a, r, s⟩).toArray 39) = W4 := ⟨_, rfl⟩
           have F4 : Hid (W4.heap[w3.heap.size]? = some (.cells (acs ⟨x.a, r, s⟩).toArray 39)) := Lib.hid (hW4 ▸ heap_alloc_new _ _)
           have B4 : Hid (Below w3.heap.size w3 W4) := Lib.hid (hW4 ▸ (Below.refl _ _).alloc (Nat.le_refl _) _)
           have B3 := Lib.hid b3
           have HA := Lib.hid ha
           have r4 : W4.rangeAt wr.heap.size 0 (aN x.a.ad).toList := (boxcells (stay B4.out (stay b3 G0.out))).2.2.2.2
           have HM := Lib.hid (HP.out.map.same ((B4.out.block _ (by have := HP.out.map.lt; have := HW2.out.size; have := B3.out.size; omega)).trans ((B3.out.block _ (by have := HP.out.map.lt; have := HW2.out.size; omega)).trans (HW2.out.block _ HP.out.map.lt))))
           clear b3 ha)
        | (refine wpList_load_mid rfl 32 _ rfl wr.heap.size 0 rfl (aN x.a.ad).toList _ r4 Try.underlying32 rfl (infoAd _) ?_; simp only [Array.toArray_toList])
        | (refine wpList_mapUpd rfl _ _ _ 84 rfl 106 Try.underlying84 w.heap.size k _ rfl HM.out (by unfold maxLen; omega) x.a.ad HXx.out.ad _ rfl rfl ?_; intro w5 h5 g5))
      have BB : Below wr.heap.size wr W4 := HW2.out.trans ((B3.out.trans (B4.out.mono B3.out.size)).mono HW2.out.size)
      refine ⟨⟨k + 1, by omega, by go_num, Lib.hid ⟨_, _, HP.out.step (a := x.a) (x' := ⟨x.a, r, s⟩) (b' := w3.heap.size) (by rw [List.getElem?_map, HXg.out]; rfl) rfl BB (Nat.le_trans HW2.out.size B3.out.size) F4.out ((HA.out.sub (fr_mono HW2.out.size _)).sub (fr_below B4.out)) h5 g5⟩⟩, by simp [intOf]; omega⟩
    · obtain rfl : k = m := by omega
      rename World => w1
      go_wp2_with (first
        | (refine wpList_range_map rfl _ 84 rfl 106 Try.underlying84 w.heap.size k _ rfl HP.out.map ?_; intro w2 cnt hit hg2 hs2' hcle; have HP2 := Lib.hid (P2.start HH.out (m0 := w.heap.size) (Nat.le_refl _) HP.out.map.lt HP.out.below hit hg2 hcle); clear hit hg2))
      go_frame
      go_loopw [] (fun wx => ∃ left cnt c sl, Hid (P2 base w1 wx g fb w.heap.size k w1.heap.size left cnt c sl)) (fun wx => wx.rangeLeft w.heap.size w1.heap.size)
      case atStart => exact ⟨_, _, _, _, HP2⟩
      case round =>
        obtain ⟨left, cnt, c, sl, HQ⟩ := hrel
        rcases HQ.out.it.next 0 with ⟨hc0, hl0, hrun⟩ | ⟨A, v, wa, cnt', hA, hlA, hvA, hrun, hita, hcl, hga, hsa, hen⟩
        · subst hc0
          have HL0 := Lib.hid hl0
          have hsb := P2.stay2 HH.out HP.out.below HQ.out HH.out.blk (by decide)
          obtain ⟨vb', vc', cur', e', _, hvb, hnv, hcM', _⟩ := HH.out.row_block
          have hvbs := P2.stay2 HH.out HP.out.below HQ.out hvb (by decide)
          have HV : VerAt base wr sb g := ⟨⟨_, hsb⟩, own_same HH.out.row (fun b hb => by
            rw [e'] at hb
            cases hb
            exact hvbs.trans hvb.symm), HH.out.n1, HH.out.nM, HH.out.par0, HH.out.parlt, HH.out.farUp⟩
          have HVr := Lib.hid HV
          obtain ⟨vb2, vc2, cur2, e2, _, _, hn2, hc2, hcell2⟩ := HV.row_block
          have e3 := e2.symm.trans HEv.out
          injection e3 with e4 _ e5
          injection e4 with e6
          injection e6 with e7
          subst e7
          subst e5
          have d1 := HV.cell0
          rw [e2] at d1
          have d2 : wr.cell? ⟨vb2, p * 4 + 2, none⟩ = some (.int .i64 (g.dep p)) := hcell2 p hp' 2 _ rfl
          have HSb := Lib.hid hsb
          have HNE : Hid (sb ≠ vb2) := Lib.hid fun e => by
            obtain ⟨cs, hcs⟩ := own_block HH.out.row (by rw [HEv.out]; rfl : g.vs.ownBlock = some vb2)
            have := HH.out.blk
            rw [e, hcs] at this
            simp at this
          have hpM : (p : Int) + 1 < 9223372036854775807 := by have := HH.out.nM; omega
          clear HV hsb e' hvb hnv hcM' hvbs e2 hcell2 hl0
          go_wp2_with fail
          clear hrun
          go_region_law (first
              | (go_simp
                 go_at_call 52
                 refine (far_walk (HVr.out.below (Below.refl _ _).drew) p hp').mono ?_
                 rintro e w5 ⟨x, rfl, hux, b5⟩
                 have HUx := Lib.hid hux
                 have HB5 := Lib.hid b5
                 have HV5 := Lib.hid ((HVr.out.below (Below.refl _ _).drew).below b5)
                 have d3 : w5.cell? ⟨sb, 0, none⟩ = some (.slice (some ⟨vb2, 0, none⟩) g.n vc2) := by have := HV5.out.cell0; rwa [HEv.out] at this
                 have d4 : w5.cell? ⟨vb2, p * 4 + 2, none⟩ = some (.int .i64 (g.dep p)) := (b5.cell (p := ⟨vb2, p * 4 + 2, none⟩) (by simpa using World.block_lt_of_cell? _ _ d2)).trans d2
                 have d5 := fun o => cell_al (o := o) d3
                 have HSb5 : Hid (w5.heap[sb]? = some (.cells #[.slice (some ⟨vb2, 0, none⟩) g.n vc2, .map (some g.mb)] 90)) := Lib.hid (by rw [← HEv.out]; exact (b5.block sb (Array.getElem?_eq_some_iff.1 HSb.out).1).trans HSb.out)
                 have HBs5 : Hid (base ≤ w5.heap.size) := Lib.hid (Nat.le_trans (Nat.le_trans HQ.out.bl HQ.out.below.size) b5.size)
                 have HO5 : Hid (w5.ownsRow base 86 4 (.slice (some ⟨vb2, 0, none⟩) g.n vc2) g.n ((List.range g.n).flatMap (vcs g))) := Lib.hid (by have := HV5.out.row; rwa [HEv.out] at this)
                 clear hux b5)
              | (refine step_append_keep rfl (.tmp 54) (.tmp 70) 87 rfl 86 (.agg #[.int .i64 0, .int .i64 0, .int .i64 0, .map none]) 4 32 Try.underlying87 infoV4 rfl (by decide) (by decide) base vb2 vc2 g.n ((List.range g.n).flatMap (vcs g)) (by simp [Act.eval]) (HO5.out.alloc _) ⟨w5.heap.size, 0, none⟩ 1 1 [.int .i64 p, .int .i64 x, .int .i64 (IntKind.i64.wrap (g.dep p + 1)), .map (some w.heap.size)] (by simp [Act.eval]) rfl (cells_at (cs := [.int .i64 p, .int .i64 x, .int .i64 (IntKind.i64.wrap (g.dep p + 1)), .map (some w.heap.size)]) (heap_alloc_new _ _)) (by simp [Value.oneCell']) (by omega) (by have := HBs5.out; simp; omega) ?_
                 intro v' w7 ho7 hg7 hloc7 _
                 have HO7 := Lib.hid ho7
                 have HG7 := Lib.hid hg7
                 have HL7 := Lib.hid hloc7
                 have hsb7 : w7.heap[sb]? = some (.cells #[.slice (some ⟨vb2, 0, none⟩) g.n vc2, .map (some g.mb)] 90) := (hg7.block sb (by have := (Array.getElem?_eq_some_iff.1 HSb5.out).1; simp; omega) (by simpa using HNE.out)).trans ((Below.heap_alloc _ _ _ (Array.getElem?_eq_some_iff.1 HSb5.out).1).trans HSb5.out)
                 have d7 : w7.cell? ⟨sb, 0, none⟩ = some (.slice (some ⟨vb2, 0, none⟩) g.n vc2) := blk_cell hsb7 rfl
                 have d8 := blk_frozen (j := 0) hsb7
                 have HSb7 := Lib.hid hsb7
                 obtain ⟨A7, c7, rfl⟩ := own_sl ho7
                 clear ho7 hg7 hloc7 hsb7))
          all_goals
            clear d1 d2 d3 d4 d5 d7 d8 c0
            go_wp2_with fail
            go_ret
            exact ⟨rfl, add_done HH.out hp' hn HP.out (by rw [List.length_map]; exact HN.out) hll (fun a ha => by obtain ⟨y, hy, rfl⟩ := List.mem_map.1 ha; exact HRt.out y hy) (fun a ha => by obtain ⟨y, hy, rfl⟩ := List.mem_map.1 ha; exact (HX.out y hy).ad) HQ.out HL0.out HUx.out ((Below.refl _ _).drew.trans HB5.out) HEv.out HO7.out HG7.out HL7.out⟩
        · have sn := store_newAd
          have HSA := Lib.hid hsa
          have HGA := Lib.hid hga
          have HIA := Lib.hid hita
          obtain ⟨Wk, hWk⟩ : ∃ Wk, wa.alloc (.cells (aN A) 32) = Wk := ⟨_, rfl⟩
          have k0 : Wk.heap[wa.heap.size]? = some (.cells (aN A) 32) := hWk ▸ heap_alloc_new _ _
          have HK : Hid (Below wa.heap.size wa Wk) := Lib.hid (hWk ▸ (Below.refl _ _).alloc (Nat.le_refl _) _)
          have hsb := P2.stay2 HH.out HP.out.below HQ.out HH.out.blk (by decide)
          have hsbl := (Array.getElem?_eq_some_iff.1 hsb).1
          have hsbr : sb ≠ w1.heap.size := by
            have := (Array.getElem?_eq_some_iff.1 HH.out.blk).1
            have := HP.out.below.size
            omega
          have hsb2 : Wk.heap[sb]? = some (.cells #[g.vs, .map (some g.mb)] 90) := (HK.out.block sb (by omega)).trans ((hga.block sb hsbl (by simpa using hsbr)).trans hsb)
          have d1 : Wk.cell? ⟨sb, 1, none⟩ = some (.map (some g.mb)) := blk_cell hsb2 rfl
          have hset : SetAt base ((Wk.alloc (.cells #[.int .i64 (g.n : Int)] 3)).drew) g.mb c (seq2 g fb left) sl := HQ.out.ahead hga ((HK.out.alloc HK.out.size _).drew)
          obtain ⟨st, wd, ad, cap, hrow, hE, gcd, scd, own0, hmbd, hS⟩ := hset.entry (by have := HQ.out.cle; have := HH.out.cntle; have := HH.out.nM; unfold maxLen; omega) hA
          have r1 := adblk k0
          have r2 : ((Wk.alloc (.cells #[.int .i64 (g.n : Int)] 3)).drew).rangeAt wa.heap.size 0 (aN A).toList := adblk (w := (Wk.alloc (.cells #[.int .i64 (g.n : Int)] 3)).drew) (blk_alloc k0)
          have d2 : ((Wk.alloc (.cells #[.int .i64 (g.n : Int)] 3)).drew).cell? ⟨sb, 1, none⟩ = some (.map (some g.mb)) := blk_cell (w := (Wk.alloc (.cells #[.int .i64 (g.n : Int)] 3)).drew) (blk_alloc hsb2) rfl
          have notm : ∀ b cs t, ((Wk.alloc (.cells #[.int .i64 (g.n : Int)] 3)).drew).heap[b]? = some (.cells cs t) → b ≠ g.mb := fun b cs t hb e => by
            obtain ⟨es, clock, hm⟩ := map_block hset.map
            rw [e, hm] at hb
            cases hb
          have q1 := (gcd.block _ (Array.getElem?_eq_some_iff.1 (blk_alloc (o' := .cells #[.int .i64 (g.n : Int)] 3) k0)).1 (by simpa using notm _ _ _ (blk_alloc k0))).trans (blk_alloc k0)
          have q2 := (gcd.block _ (Array.getElem?_eq_some_iff.1 (blk_alloc (o' := .cells #[.int .i64 (g.n : Int)] 3) hsb2)).1 (by simpa using notm _ _ _ (blk_alloc hsb2))).trans (blk_alloc hsb2)
          have r3 : wd.rangeAt wa.heap.size 0 (aN A).toList := adblk q1
          have d3 : wd.cell? ⟨sb, 1, none⟩ = some (.map (some g.mb)) := blk_cell q2 rfl
          have Q1 := Lib.hid q1
          have Q2 := Lib.hid q2
          have HS := Lib.hid hS
          have HMBD := Lib.hid hmbd
          have HMB := Lib.hid (hset.mb0 hA)
          have HSet := Lib.hid hset
          have HMl := Lib.hid hset.map.lt
          have HMM := Lib.hid (map_block hset.map)
          have HN1 : Hid (wd.heap[Wk.heap.size]? = some (.cells #[i64v g.n] 3)) := Lib.hid ((gcd.block Wk.heap.size (by simp) (by
            simp only [ne_eq, Option.some.injEq]
            intro e
            obtain ⟨es, clock, hm⟩ := HMM.out
            have h2 : ((Wk.alloc (.cells #[.int .i64 (g.n : Int)] 3)).drew).heap[Wk.heap.size]? = some (.cells #[.int .i64 (g.n : Int)] 3) := heap_alloc_new Wk _
            rw [← e, h2] at hm
            cases hm)).trans (heap_alloc_new Wk _))
          have hln : (seq2 g fb left A).length ≤ 1048577 := by
            unfold seq2
            have h1 : (seqA g A).length ≤ g.n := by unfold seqA; exact Nat.le_trans (List.length_filter_le _ _) (by simp)
            rw [List.length_append]
            have : (if (fb A).isSome && !left A then [g.n] else []).length ≤ 1 := by split <;> simp
            omega
          have HBw : Hid (base ≤ wd.heap.size) := Lib.hid (by have := HQ.out.bl; have := HQ.out.below.size; have := hga.size; have := HK.out.size; rw [scd]; simp; omega)
          have HSC := Lib.hid scd
          have HO := Lib.hid own0
          have HR0 := Lib.hid hrow
          have HCD := Lib.hid gcd
          have HK0 := Lib.hid k0
          clear hsa hga hita hS hmbd hset own0 hrow gcd scd k0 notm q1 q2 hsb hsbl hsbr hsb2
          go_wp2_with (refine wpList_alloc_row rfl 32 rfl _ zeroAd_run ?_)
          clear hWk sn
          have huA := Try.underlying32
          have hiA := infoAd A
          go_region_held_law (fun w' => w'.cell? ⟨sb, 1, none⟩ = some (.map (some g.mb)) ∧ w'.rangeAt wa.heap.size 0 (aN A).toList) (first | exact ⟨d1, r1⟩ | exact ⟨d2, r2⟩ | exact ⟨d3, r3⟩ | exact ⟨d4, r4⟩ | exact ⟨d5, r5⟩)
            (first
              | (refine step_append_row rfl (.tmp 44) (.tmp 46) 107 rfl 3 (.int .i64 0) 1 8 Try.underlying107 infoInt rfl (by decide) (by decide) base (row0 (seq2 g fb left) sl A) (seq2 g fb left A).length ((seq2 g fb left A).map i64v) (by simp [Act.eval, HR0.out]) HO.out ⟨Wk.heap.size, 0, none⟩ 1 1 [i64v g.n] (by simp [Act.eval]) rfl (one_at HN1.out) (by simp [i64v, Value.oneCell']) (by omega) HBw.out ?_
                 intro v' we ho hde hloc
                 obtain ⟨wf, hR, hm, hef⟩ := HS.out we v' (hde.block _ (by have := HMl.out; have := HSC.out; omega) HMB.out)
                 have q3 := (hde.block _ (Array.getElem?_eq_some_iff.1 Q1.out).1 (fun e => own_not HO.out Q1.out (by decide) _ e.symm rfl)).trans Q1.out
                 have q4 := (hde.block _ (Array.getElem?_eq_some_iff.1 Q2.out).1 (fun e => own_not HO.out Q2.out (by decide) _ e.symm rfl)).trans Q2.out
                 have r4 : we.rangeAt wa.heap.size 0 (aN A).toList := adblk q3
                 have d4 : we.cell? ⟨sb, 1, none⟩ = some (.map (some g.mb)) := blk_cell q4 rfl
                 have hmb2 := map_block hm
                 have nm : ∀ b cs t, we.heap[b]? = some (.cells cs t) → b ≠ g.mb := fun b cs t hb e => by
                   obtain ⟨es, clock, hm3⟩ := HMBD.out
                   rw [← hde.block g.mb (by have := HMl.out; have := HSC.out; omega) HMB.out, ← e, hb] at hm3
                   cases hm3
                 have r5 : wf.rangeAt wa.heap.size 0 (aN A).toList := adblk ((hef.block _ (Array.getElem?_eq_some_iff.1 q3).1 (by simpa using nm _ _ _ q3)).trans q3)
                 have d5 : wf.cell? ⟨sb, 1, none⟩ = some (.map (some g.mb)) := blk_cell ((hef.block _ (Array.getElem?_eq_some_iff.1 q4).1 (by simpa using nm _ _ _ q4)).trans q4) rfl
                 have HO2 := Lib.hid ho
                 have HDE := Lib.hid hde
                 have HLO := Lib.hid hloc
                 have HM2 := Lib.hid hm
                 have HEF := Lib.hid hef
                 clear ho hde hloc hm hef q3 q4 hmb2 nm))
          clear hE hR d1 d2 d3 d4 d5 r1 r2 r3 r4 r5 huA hiA
          go_wp2_with fail
          have hfA : (fb A).isSome = true := by
            cases hf : fb A with
            | none => rw [hf] at hvA; cases hvA
            | some _ => rfl
          have hnew := HQ.out.step hA hfA hlA HIA.out hcl HGA.out ((HK.out.alloc HK.out.size (.cells #[.int .i64 (g.n : Int)] 3)).drew) HCD.out HO2.out HDE.out HLO.out HM2.out HEF.out
          refine ⟨⟨_, _, _, _, Lib.hid hnew⟩, ?_⟩
          rw [hnew.it.left_eq, HQ.out.it.left_eq]
          exact hcl
end
end Go.Proofs.Ytdgenbidgieojaa
/- Commit. -/
namespace Go.Proofs.Ytdgenbidgieojaa
open Go.RowKit SmWord
set_option maxRecDepth 100000

section
variable {base : Nat} {Z : Hp} {w : World} {sb : Nat} {g : Gh} {L : Nat → List Acc}
theorem commit_nil (par : Int) (lv : Value) (w : World) : Calls Try.prog 27 #[.pointer none, .int .i64 par, lv] w fun e w' => e = .returned (.tuple #[.int .i64 0, .int .i64 1]) ∧ w = w' := by
  go_enter Try.func27, Try.ntmps27
  go_wp2_with fail
  exact bodyPost_ret (v := .tuple #[.int .i64 0, .int .i64 1]) (by simp [results, Try.results27, go_sem]) rfl ⟨rfl, rfl⟩
theorem commit_none (h : StoreAt base Z w sb g L) (par : Int) (lv : Value) (hp : ¬ (0 ≤ par ∧ par < g.n)) : Calls Try.prog 27 #[.pointer (some ⟨sb, 0, none⟩), .int .i64 par, lv] w fun e w' => e = .returned (.tuple #[.int .i64 0, .int .i64 12]) ∧ w = w' := by
  have KH := Lib.hid (has_walk h par)
  rw [decide_eq_false hp] at KH
  clear h hp
  go_enter Try.func27, Try.ntmps27
  go_wp2_with (go_at_call 39; refine KH.out.mono ?_; rintro e w1 ⟨rfl, rfl⟩)
  exact bodyPost_ret (v := .tuple #[.int .i64 0, .int .i64 12]) (by simp [results, Try.results27, go_sem]) rfl ⟨rfl, rfl⟩
theorem commit_arg (h : StoreAt base Z w sb g L) (p : Nat) (lv : Value) (l : List AV) (hp' : p < g.n) (hl : AccsZ (hp w) lv l) (hll : l.length ≤ 1000000) (hr : (l.all fun x => rightA x.a) = false) : Calls Try.prog 27 #[.pointer (some ⟨sb, 0, none⟩), .int .i64 (p : Int), lv] w fun e w' => e = .returned (.tuple #[.int .i64 0, .int .i64 1]) ∧ Below w.heap.size w w' := by
  have KH := Lib.hid (has_walk h (p : Int))
  rw [decide_eq_true (by omega)] at KH
  have KR := Lib.hid (allRight_walk lv l w hl hll)
  rw [hr] at KR
  obtain ⟨A, c, rfl, -⟩ := hl.row.val
  clear h hp' hl hr hll
  go_enter Try.func27, Try.ntmps27
  go_wp2_with (first
    | (go_at_call 39; refine KH.out.mono ?_; rintro e w1 ⟨rfl, rfl⟩)
    | (go_at_call 40; refine KR.out.mono ?_; rintro e w2 ⟨rfl, b2⟩; have HB := Lib.hid b2; clear b2))
  exact bodyPost_ret (v := .tuple #[.int .i64 0, .int .i64 1]) (by simp [results, Try.results27, go_sem]) rfl ⟨rfl, HB.out⟩
/-- What lies in the store's own blocks and in Z is all that AddIs asks of the world it began in. -/
theorem AddIs.early {w1 w' : World} (b : Below w.heap.size w w1) (h : StoreAt base Z w sb g L) {p : Nat} {l : List Acc} (ha : AddIs base Z w1 sb g L p l w') : AddIs base Z w sb g L p l w' := by
  obtain ⟨Z', g', h1, h2, h3, h4, h5, h6, h7, h8⟩ := ha
  have hz := b.size
  refine ⟨Z', g', h1, h2, h3, h4, fun x hx hx' => Nat.le_trans hz (h5 x hx hx'), fun x hx hs => (h6 x (by omega) hs).trans (b.block x hx), fun x hs => (h7 x hs).imp id fun hl => by omega, ?_⟩
  exact (b.mono (Nat.le_trans h.bsb (Nat.le_of_lt (Array.getElem?_eq_some_iff.1 h.blk).1))).trans h8
theorem commit_ok (h : StoreAt base Z w sb g L) (p : Nat) (lv : Value) (l : List AV) (hp' : p < g.n) (hl : AccsZ (hp w) lv l) (hll : l.length ≤ 1000000) (hr : ∀ x ∈ l, rightA x.a = true) (hn : g.n < 1048576) : Calls Try.prog 27 #[.pointer (some ⟨sb, 0, none⟩), .int .i64 (p : Int), lv] w fun e w' => e = .returned (.tuple #[.int .i64 (g.n : Int), .int .i64 0]) ∧ AddIs base Z w sb g L p (l.map AV.a) w' := by
  have KH := Lib.hid (has_walk h (p : Int))
  rw [decide_eq_true (by omega)] at KH
  have KR := Lib.hid (allRight_walk lv l w hl hll)
  rw [show (l.all fun x => rightA x.a) = true from List.all_eq_true.2 fun x hx => hr x hx] at KR
  obtain ⟨N, hN⟩ : ∃ N : Int, (g.n : Int) = N := ⟨_, rfl⟩
  have KL := Lib.hid fun w1 (b : Below w.heap.size w w1) => slen_walk (h.below b)
  have KA := Lib.hid fun w1 (b : Below w.heap.size w w1) => add_walk (h.below b) p hp' lv l (hl.sub (hp_below b)) hll hr hn
  rw [hN] at KL KA ⊢
  have HH := Lib.hid h
  obtain ⟨A, c, rfl, -⟩ := hl.row.val
  have hn' : N < 1048576 := by omega
  clear h hp' hl hr hll hn hN
  go_enter Try.func27, Try.ntmps27
  go_wp2_with (first
    | (go_at_call 39; refine KH.out.mono ?_; rintro e w1 ⟨rfl, rfl⟩)
    | (go_at_call 40; refine KR.out.mono ?_; rintro e w2 ⟨rfl, b2⟩; have HB := Lib.hid b2; clear b2)
    | (go_at_call 41; refine (KL.out _ HB.out).mono ?_; rintro e w3 ⟨rfl, rfl⟩)
    | (go_at_call 42; refine (KA.out _ HB.out).mono ?_; rintro e w4 ⟨rfl, ha⟩; have HA := Lib.hid (ha.early HB.out HH.out); clear ha))
  exact bodyPost_ret (v := .tuple #[.int .i64 N, .int .i64 0]) (by simp [results, Try.results27, go_sem]) rfl ⟨rfl, HA.out⟩
end
end Go.Proofs.Ytdgenbidgieojaa
