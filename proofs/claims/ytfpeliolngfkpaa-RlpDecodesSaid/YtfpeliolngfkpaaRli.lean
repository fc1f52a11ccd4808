/- What items of package rlp does. -/
import Derived.Test.YtfpeliolngfkpaaRlh
namespace Go.Proofs.Ytfpeliolngfkpaa
open Go.RowKit SmWord
set_option maxRecDepth 100000

theorem rows_wrs : ∀ F : Fo, (rows F).length ≤ (wrs F).length
  | .no => Nat.le_refl _
  | .st b nx => by
    have := rows_wrs nx
    have := ws_long b
    simp only [rows, wrs, List.length_append, List.length_cons] at *
    omega
  | .li k nx => by
    have := rows_wrs nx
    have := rows_wrs k
    have := hea_long (wrs k).length 64
    simp only [rows, wrs, List.length_append, List.length_cons] at *
    omega
theorem one_wrs {F : Fo} (h : One F) : 0 < (wrs F).length := Nat.lt_of_lt_of_le (one_pos h) (rows_wrs F)
theorem lop_nz {one : List Nat → Nat → Res} (h1 : ∀ R room k, one R room = .err k → k ≠ 0) : ∀ (fuel : Nat) (R : List Nat) (room : Nat) (acc : List Nd) (k : Nat), lop one fuel R room acc = .err k → k ≠ 0
  | 0, _, _, _, k, h => by cases h; decide
  | fuel + 1, R, room, acc, k, h => by
    rw [lop] at h
    split at h
    · cases h
    · split at h
      · rename_i e he
        cases h
        exact h1 _ _ _ he
      · exact lop_nz h1 fuel _ _ _ k h
theorem rd_nz : ∀ (d : Nat) (R : List Nat) (room k : Nat), rd d R room = .err k → k ≠ 0 := by
  have key : ∀ (sub : Option (List Nat → Nat → Res)), (∀ one, sub = some one → ∀ R room k, one R room = .err k → k ≠ 0) → ∀ (R : List Nat) (room k : Nat), rdStep sub R room = .err k → k ≠ 0 := by
    intro sub hs R room k h
    cases R with
    | nil => cases h; decide
    | cons c T =>
      by_cases hr : 0 < room
      · rw [rdStep_hdc sub _ _ (.inl hr)] at h
        split at h
        · rename_i k' he
          cases h
          have := hdc_bad he
          omega
        · split at h
          · cases h; decide
          · split at h
            · split at h
              · cases h; decide
              · cases h
            · split at h
              · cases h; decide
              · rename_i one
                split at h
                · rename_i e he
                  cases h
                  exact lop_nz (hs one rfl) _ _ _ _ _ he
                · cases h
      · unfold rdStep at h
        simp only at h
        repeat' split at h
        all_goals first | (cases h; done) | skip
        all_goals first | (cases h; decide) | skip
        · rename_i he; cases h
          unfold hdp at he
          simp only at he
          repeat' split at he
          all_goals first | (cases he; done) | (cases he; decide)
        · rename_i one _ _ he
          cases h
          exact lop_nz (hs one rfl) _ _ _ _ _ he
  intro d
  induction d with
  | zero => exact key none (fun _ h => by cases h)
  | succ d ih => exact key (some (rd d)) (fun one h => by cases h; exact ih)
theorem RowOf.size {w : World} {x : Nd} {acc : List Nd} {s : Int} : ∀ {l : List Nd} {cs : List Value}, RowOf w cs (l ++ x :: acc) → RowOf w (cs.set (l.length * 3 + 2) (.int .i64 s)) (l ++ { x with sz := s } :: acc)
  | [], [], h => h.elim
  | [], [_], h => h.elim
  | [], [_, _], h => h.elim
  | [], _ :: _ :: _ :: _, h => ⟨h.1, h.2.1, rfl, h.2.2.2⟩
  | _ :: _, [], h => h.elim
  | _ :: _, [_], h => h.elim
  | _ :: _, [_, _], h => h.elim
  | y :: l, a :: b :: c :: cs, h => by
    have := RowOf.size (s := s) h.2.2.2
    rw [show (y :: l).length * 3 + 2 = (l.length * 3 + 2) + 1 + 1 + 1 by simp; omega]
    exact ⟨h.1, h.2.1, h.2.2.1, this⟩
theorem Own.size {w : World} {base : Nat} {v : Value} {l acc : List Nd} {x : Nd} (h : Own w base v (l ++ x :: acc)) : ∃ g cap cur, v = .slice (some ⟨g, 0, none⟩) (l.length + 1 + acc.length) cap ∧ base ≤ g ∧ w.heap[g]? = some (.cells cur 43) ∧ l.length * 3 + 2 < cur.size ∧ ∀ (w' : World), Below w.heap.size w w' → ∀ s, Own (w'.setCell ⟨g, l.length * 3 + 2, none⟩ (.int .i64 s)) base v (l ++ { x with sz := s } :: acc) := by
  obtain ⟨cs, ho, hr⟩ := h
  rcases ho.2 with ⟨_, h0⟩ | ⟨g, cap, cur, rfl, hb, hg, h1, h2, h3, h4⟩
  · simp at h0
  · have hlen : (l ++ x :: acc).length = l.length + 1 + acc.length := by simp; omega
    have hj : l.length * 3 + 2 < cur.size := by rw [h3]; rw [hlen] at h1; omega
    refine ⟨g, cap, cur, by rw [hlen], hb, hg, hj, fun w' hb' s => ⟨cs.set (l.length * 3 + 2) (.int .i64 s), ⟨?_, .inr ⟨g, cap, cur.setIfInBounds (l.length * 3 + 2) (.int .i64 s), ?_, hb, blk_set (stay hb' hg) _, ?_, h2, by simpa using h3, ?_⟩⟩, ?_⟩⟩
    · have := ho.1
      rw [List.length_set, this]
      simp
    · simp
    · simpa using h1
    · rw [Array.toList_setIfInBounds, show (l ++ { x with sz := s } :: acc).length = (l ++ x :: acc).length by simp, ← h4, List.take_set]
    · have k : Keeps base (fun t => t == 43) w' (w'.setCell ⟨g, l.length * 3 + 2, none⟩ (.int .i64 s)) := (Keeps.refl base _ w').setCell (stay hb' hg) rfl hb _
      exact ((hr.keeps (Keeps.of_below (base := 0) (T := fun _ => false) hb' (Nat.zero_le _)) rfl).keeps k rfl).size
def ItemsIs (W0 : World) (rb : Nat) (bv : Value) (e : Nat) (l : List Nd) (r : Res) (en : Ending) (w' : World) : Prop := match r with
  | .err k => en = .returned (.int .i64 (k : Int)) ∧ Below W0.heap.size W0 w'
  | .ok l' _ => en = .returned (.int .i64 0) ∧ ∃ v', Rd W0 w' rb bv e v' (l ++ ⟨true, [], (l'.length : Int)⟩ :: l')
/-- Where a reader stands. -/
def atOf (rb : Nat) (w : World) : Nat := match w.cell? ⟨rb, 1, none⟩ with
  | some (.int _ z) => z.toNat
  | _ => 0
theorem Rd.atOf {W0 w : World} {rb p : Nat} {bv v : Value} {l : List Nd} (h : Rd W0 w rb bv p v l) : atOf rb w = p := by
  have h1 : w.cell? ⟨rb, 1, none⟩ = some (.int .i64 (p : Int)) := blk_cell (j := 1) h.blk rfl
  simp [Go.Proofs.Ytfpeliolngfkpaa.atOf, h1]
/-- A new row of nodes, its place and the reader's. -/
theorem rd_more {W0 w w5 : World} {rb p ng ncap : Nat} {bv v : Value} {l : List Nd} {cs row : List Value} {x : Nd} (h : Rd W0 w rb bv p v l) (hcs : RowOf w cs l)
    (hg : (w.alloc (.cells row.toArray 43)).grownBy w5 v.ownBlock) (ho : w.ownsRow W0.heap.size 43 3 v l.length cs)
    (hown : w5.ownsRow W0.heap.size 43 3 (.slice (some ⟨ng, 0, none⟩) (l.length + 1) ncap) (l.length + 1) (cs ++ row)) (hrow : ∀ w', Keeps W0.heap.size (fun t => t == 43 || t == 55) w w' → RowOf w' row [x]) :
    w5.heap[rb]? = some (.cells #[bv, .int .i64 (p : Int), v] 55) ∧ Rd W0 (w5.setCell ⟨rb, 2, none⟩ (.slice (some ⟨ng, 0, none⟩) (l.length + 1) ncap)) rb bv p (.slice (some ⟨ng, 0, none⟩) (l.length + 1) ncap) (l ++ [x]) := by
  have hb := h.below.size
  have ka : ∀ T, Keeps W0.heap.size T w (w.alloc (.cells row.toArray 43)) := fun T => (Keeps.refl _ T w).alloc hb _
  have k5 : Keeps W0.heap.size (fun t => t == 43) w w5 := (ka _).grown hg (ho.alloc _) rfl (Nat.le_trans hb (by simp))
  have k6 : Keeps W0.heap.size (fun t => t == 43 || t == 55) w w5 := (ka _).grown hg (ho.alloc _) rfl (Nat.le_trans hb (by simp))
  have h5 := k5.other _ _ _ _ rfl h.blk
  have k7 := k6.setCell (j := 2) h5 rfl h.new (.slice (some ⟨ng, 0, none⟩) (l.length + 1) ncap)
  have kr : Keeps W0.heap.size (fun t => t == 55) w5 (w5.setCell ⟨rb, 2, none⟩ (.slice (some ⟨ng, 0, none⟩) (l.length + 1) ncap)) := (Keeps.refl _ _ w5).setCell (j := 2) h5 rfl h.new _
  refine ⟨h5, ⟨h.below.trans k7.below, h.new, blk_set h5 _, cs ++ row, ?_, ?_⟩⟩
  · rw [List.length_append]
    exact own_keeps hown kr rfl
  · exact (hcs.keeps k7 rfl).app (hrow _ k7)
end Go.Proofs.Ytfpeliolngfkpaa
/- What items of package rlp does: its walk. -/
namespace Go.Proofs.Ytfpeliolngfkpaa
open Go.RowKit SmWord
set_option maxRecDepth 100000

set_option maxHeartbeats 8000000 in
theorem items_walk (d : Nat) (W0 : World) (R : List Nat) (A : Option Addr) (n c rb lists : Nat) (hn : n ≤ 1048576)
    (IT : Hid (∀ (w' : World) (p : Nat) (v : Value) (l : List Nd) (e : Nat), Rd W0 w' rb (.slice A n c) p v l → p < e → e ≤ n → l.length ≤ p → Calls Try.prog 22 #[.pointer (some ⟨rb, 0, none⟩), .int .i64 (e : Int), .int .i64 (lists : Int)] w' (ReadIs W0 rb (.slice A n c) p l (rd d (R.drop p) (e - p)))))
    (hR : Hid (∀ x ∈ R, x < 256)) (hlen : R.length = n) (w : World) (q E : Nat) (v : Value) (l : List Nd) (h : Rd W0 w rb (.slice A n c) q v l) (hqE : q ≤ E) (hE : E ≤ n) (hl : l.length + 1 ≤ q) :
    Calls Try.prog 35 #[.pointer (some ⟨rb, 0, none⟩), .int .i64 (E : Int), .int .i64 (lists : Int)] w (ItemsIs W0 rb (.slice A n c) E l (lop (rd d) (E - q + 1) (R.drop q) (E - q) [])) := by
  obtain ⟨i0, hi0, hz0, hz1, hz2⟩ := Try.partsN
  obtain ⟨A1, c1, rfl, hc1, hA1, _⟩ := h.row.nodes
  obtain ⟨cs, ho, hcs⟩ := h.row
  have H0 := Lib.hid h
  have HO := Lib.hid ho
  have HC := Lib.hid hcs
  have HL := Lib.hid hlen
  have hsz := h.below.size
  have t2 : w.cell? ⟨rb, 2, none⟩ = some (.slice A1 l.length c1) := blk_cell (j := 2) h.blk rfl
  have t3 : ∀ ob : Obj, (w.alloc ob).cell? ⟨rb, 2, none⟩ = some (.slice A1 l.length c1) := fun ob => (((Below.refl w.heap.size w).alloc (Nat.le_refl _) ob).cell (p := ⟨rb, 2, none⟩) (Array.getElem?_eq_some_iff.1 h.blk).1).trans t2
  obtain ⟨RES, hRES⟩ : ∃ RES, lop (rd d) (E - q + 1) (R.drop q) (E - q) [] = RES := ⟨_, rfl⟩
  rw [hRES]
  have HRES := Lib.hid hRES
  clear h ho hcs hRES hlen
  go_enter Try.func35, Try.ntmps35
  go_wp2_with (at_builtin; refine wpList_append_lies _ rfl _ _ 22 rfl W0.heap.size 43 i0 (.agg zN) 3 40 Try.underlying22 hi0 hz0 hz1 hz2 rfl (by decide) (.slice A1 l.length c1) l.length cs rfl (HO.out.alloc _) ⟨w.heap.size, 0, none⟩ 1 1 [.bool true, .slice none 0 0, .int .i64 0] rfl rfl (World.news_of_block (cs := #[.bool true, .slice none 0 0, .int .i64 0]) (heap_alloc_new _ _)) (by simp [Value.oneCell']) (by decide) (by unfold maxLen; omega) (by omega) (by simp; omega) _ rfl ?_)
  intro ng ncap w5 hown5 hgrow _ _
  have M := Lib.hid (rd_more (row := [.bool true, .slice none 0 0, .int .i64 0]) (x := ⟨true, [], 0⟩) H0.out HC.out hgrow HO.out hown5 (fun w' _ => ⟨rfl, ⟨none, 0, rfl, Nat.le_refl _, Nat.zero_le _, (fun _ => ⟨rfl, rfl⟩), (fun x hx => by cases hx), (fun h0 => by cases h0)⟩, rfl, trivial⟩))
  have s5 : w5.cell? ⟨rb, 2, none⟩ = some (.slice A1 l.length c1) := blk_cell (j := 2) M.out.1 rfl
  have z5 := blk_frozen (j := 2) M.out.1
  clear hown5 hgrow t2 t3 HO HC
  go_wp2_with fail
  have MM := Lib.hid M.out.2
  clear M s5 z5 H0
  generalize (w5.setCell ⟨rb, 2, none⟩ (.slice (some ⟨ng, 0, none⟩) (l.length + 1) ncap)) = W at *
  go_loopw [] (fun wr => ∃ (p' : Nat) (v' : Value) (acc : List Nd) (fuel : Nat), Rd W0 wr rb (.slice A n c) p' v' (l ++ ⟨true, [], 0⟩ :: acc) ∧ p' ≤ E ∧ l.length + 1 + acc.length ≤ p' ∧ E - p' < fuel ∧ lop (rd d) fuel (R.drop p') (E - p') acc = RES) (fun wr => n + 1 - atOf rb wr)
  case atStart => exact ⟨q, _, [], E - q + 1, MM.out, hqE, hl, by omega, HRES.out⟩
  case round =>
    obtain ⟨p', v', acc, fuel, hrd, hpE, hac, hfu, hlop⟩ := hrel
    clear MM HRES
    have hat := hrd.atOf
    have HD := Lib.hid hrd
    have HP := Lib.hid hlop
    have HA := Lib.hid hat
    have t1 : wr.cell? ⟨rb, 1, none⟩ = some (.int .i64 (p' : Int)) := blk_cell (j := 1) hrd.blk rfl
    have t2 : wr.cell? ⟨rb, 2, none⟩ = some v' := blk_cell (j := 2) hrd.blk rfl
    clear hrd hlop hat
    obtain ⟨f, rfl⟩ : ∃ f, fuel = f + 1 := ⟨fuel - 1, by omega⟩
    by_cases hlt : p' < E
    · have q1 : decide (p' < E) = true := decide_eq_true hlt
      have hlp := HP.out
      rw [lop, if_neg (by omega)] at hlp
      have IT2 := Lib.hid (IT.out wr p' v' (l ++ ⟨true, [], 0⟩ :: acc) E HD.out hlt hE (by simp; omega))
      cases hr : rd d (R.drop p') (E - p') with
      | err k =>
        have hk := rd_nz d _ _ _ hr
        have hk2 : ((k : Int) != 0) = true := by rw [bne_iff_ne]; omega
        rw [hr] at hlp
        simp only at hlp
        have HR2 := Lib.hid hlp
        rw [hr] at IT2
        clear hr hlp hk t2 HP HD HA
        go_wp2_with fail
        refine IT2.out.mono ?_
        rintro e w2 ⟨rfl, b2⟩
        have B2 := Lib.hid b2
        clear b2 IT2
        go_wp2_with fail
        go_ret
        rw [← HR2.out]
        exact ⟨rfl, B2.out⟩
      | ok l' u =>
        obtain ⟨S, s1, s2, s3, s4, s5, _⟩ := rd_sound d (R.drop p') (E - p') l' u (fun x hx => hR.out x (List.mem_of_mem_drop hx)) (by rw [List.length_drop, HL.out]; omega) (by omega) hr
        have s6 := one_wrs s1
        have s7 := rows_wrs S
        rw [s2] at s7
        rw [hr] at hlp
        simp only [List.drop_drop] at hlp
        have HR2 := Lib.hid hlp
        rw [hr] at IT2
        clear hr hlp t2 HP HD s1 s2 s3
        go_wp2_with fail
        refine IT2.out.mono ?_
        rintro e w2 ⟨rfl, v2, hrd2⟩
        have D2 := Lib.hid hrd2
        clear hrd2 IT2
        go_wp2_with fail
        have h1 := D2.out.atOf
        have h2 := HA.out
        refine ⟨⟨p' + u, v2, acc ++ l', f, by simpa using D2.out, by omega, by simp; omega, by omega, ?_⟩, by omega⟩
        rw [← HR2.out, show E - (p' + u) = E - p' - u by omega]
    · have q1 : decide (p' < E) = false := decide_eq_false hlt
      obtain rfl : p' = E := by omega
      have hlp := HP.out
      rw [lop, if_pos (by omega)] at hlp
      subst hlp
      obtain ⟨g, cap, cur, rfl, hgb, hg, hgj, hset⟩ := HD.out.row.size
      have HG := Lib.hid hg
      have HS := Lib.hid hset
      have hgw := HD.out.below.size
      obtain ⟨ll, hll⟩ : ∃ ll, l.length = ll := ⟨_, rfl⟩
      obtain ⟨na, hna⟩ : ∃ na, acc.length = na := ⟨_, rfl⟩
      obtain ⟨tt, htt⟩ : ∃ tt, ll + 1 + na = tt := ⟨_, rfl⟩
      obtain ⟨tp, htp⟩ : ∃ tp, ll + na = tp := ⟨_, rfl⟩
      have e1 : (tt : Int) - 1 = (tp : Int) := by omega
      have e2 : (tp : Int) - (ll : Int) = (na : Int) := by omega
      have i1 : (ll : Int) < (tt : Int) := by omega
      have i2 : ll < tt := by omega
      rw [hll, hna, htt] at t2 HS HD
      rw [hll] at hgj hac hl
      rw [hna] at hac
      have HT := Lib.hid htt
      have HN := Lib.hid hna
      have HLL := Lib.hid hll
      rw [hll]
      clear hset hg HP HA htt htp hna hll
      go_wp2_with fail
      refine region_last2 (aQ := ?aQ) 15 (by kernel_rfl) (by kernel_rfl) (fun w1 => ?hq) (fun w1' hb' => ?hh)
      case hq =>
        have c1 := fun g => ext2_cell w1 g t2
        simp only [List.take_succ_cons, List.take_zero]
        repeat (go_big_quiet_step (fail))
        refine wpQuiet_nil ?_
        rfl
      have G1 := Lib.hid (stay hb' HG.out)
      have B1 := Lib.hid hb'
      have z1 := blk_frozen (j := ll * 3 + 2) G1.out
      have u1 : ∃ x, w1'.cell? ⟨g, ll * 3 + 2, none⟩ = some x := ⟨_, blk_cell (j := ll * 3 + 2) G1.out (Array.getElem?_eq_getElem hgj)⟩
      obtain ⟨x1, u1⟩ := u1
      clear t1 t2 hb' HG
      go_wp2_with fail
      go_ret
      have k : Keeps W0.heap.size (fun t => t == 43) w1' (w1'.setCell ⟨g, ll * 3 + 2, none⟩ (.int .i64 (na : Int))) := (Keeps.refl _ _ w1').setCell G1.out rfl hgb _
      have o1 := HS.out w1' B1.out (na : Int)
      rw [← HN.out] at o1 k ⊢
      exact ⟨rfl, _, ⟨(HD.out.below.trans (B1.out.mono hgw)).setCell hgb _, HD.out.new, k.other _ _ _ _ rfl (stay B1.out HD.out.blk), o1⟩⟩
end Go.Proofs.Ytfpeliolngfkpaa
/- What item of package rlp does: all branches, by the depth. -/
namespace Go.Proofs.Ytfpeliolngfkpaa
open Go.RowKit SmWord
set_option maxRecDepth 100000

/-- What item promises at a depth. -/
def ItemAt (d : Nat) (W0 : World) (R : List Nat) (A : Option Addr) (n c rb : Nat) : Prop :=
  ∀ (w' : World) (p : Nat) (v : Value) (l : List Nd) (e : Nat), Rd W0 w' rb (.slice A n c) p v l → p < e → e ≤ n → l.length ≤ p → Calls Try.prog 22 #[.pointer (some ⟨rb, 0, none⟩), .int .i64 (e : Int), .int .i64 ((64 - d : Nat) : Int)] w' (ReadIs W0 rb (.slice A n c) p l (rd d (R.drop p) (e - p)))
/-- The middle of bytes that hold something. -/
theorem cut_mid {w : World} {A : Option Addr} {n c : Nat} {R : List Nat} (ha : ArgB w A n c R) {p q : Nat} (hp : p ≤ q) (hq : q ≤ n) (h0 : 0 < n) :
    ∃ b o c2, Sl w (some ⟨b, o, none⟩) (q - p) (fun i => ((R.drop p).take (q - p)).getD i 0) ∧ ∀ w' : World, (Instr.sliceAt 25 (.slice A n c) (some (.int .i64 (p : Int))) (some (.int .i64 (q : Int))) none).run Try.prog w' = .ok (.slice (some ⟨b, o, none⟩) (q - p) c2) w' := by
  obtain ⟨b, off, e, hb, hc⟩ := ha.cells.cells h0
  cases e
  obtain ⟨o, ho, es⟩ := slice_mid (P := Try.prog) (t := 25) (by kernel_rfl) Try.s8 b off (n := n) (c := c) hp hq ha.cap
  exact ⟨b, o, c - p, Sl.of_get ha (fun h => by rw [ho (by omega), Nat.mul_one]) (by omega), es⟩
theorem Rd.below' {W0 w w' : World} {rb p : Nat} {bv v : Value} {l : List Nd} (h : Rd W0 w rb bv p v l) (hb : Below w.heap.size w w') : Rd W0 w' rb bv p v l :=
  ⟨h.below.trans (hb.mono h.below.size), h.new, stay hb h.blk, h.row.below hb⟩
/-- The reader goes on. -/
theorem Rd.move {W0 w : World} {rb p : Nat} {bv v : Value} {l : List Nd} (h : Rd W0 w rb bv p v l) (q : Nat) : Rd W0 (w.setCell ⟨rb, 1, none⟩ (.int .i64 (q : Int))) rb bv q v l := by
  have k : Keeps W0.heap.size (fun t => t == 55) w (w.setCell ⟨rb, 1, none⟩ (.int .i64 (q : Int))) := (Keeps.refl _ _ w).setCell h.blk rfl h.new _
  exact ⟨h.below.trans k.below, h.new, blk_set h.blk _, h.row.keeps k rfl rfl⟩
set_option maxHeartbeats 1000000 in
theorem item_walk (W0 : World) (R : List Nat) (A : Option Addr) (n c rb : Nat) (hn : n ≤ 1048576) (ha0 : ArgB W0 A n c R) : ∀ d, d ≤ 64 → ItemAt d W0 R A n c rb := by
  have key : ∀ (d : Nat) (sub : Option (List Nat → Nat → Res)), d ≤ 64 → (match sub with | none => d = 0 | some one => ∃ e, d = e + 1 ∧ one = rd e ∧ ItemAt e W0 R A n c rb) → ∀ (w : World) (p : Nat) (v : Value) (l : List Nd) (e : Nat), Rd W0 w rb (.slice A n c) p v l → p < e → e ≤ n → l.length ≤ p → Calls Try.prog 22 #[.pointer (some ⟨rb, 0, none⟩), .int .i64 (e : Int), .int .i64 ((64 - d : Nat) : Int)] w (ReadIs W0 rb (.slice A n c) p l (rdStep sub (R.drop p) (e - p))) := by
    intro d sub hd hsub w p v l e h hpe hen hlp
    have ha := ha0.below h.below
    obtain ⟨A', ha', es⟩ := cut_ahead ha (p := p) (by omega)
    have hlenR : (R.drop p).length = n - p := ha'.len
    have KH : ∀ w' : World, Below w.heap.size w w' → Calls Try.prog 34 #[.slice A' (n - p) (c - p)] w' fun en w2 => HdIs (hdc (R.drop p)) en ∧ Below w'.heap.size w' w2 := fun w' hb => head_walk _ _ _ _ (by omega) w' (ha'.below hb)
    have HR := Lib.hid h.blk
    rw [rdStep_hdc sub _ _ (.inl (by omega))]
    have hB := h.below
    cases hh : hdc (R.drop p) with
    | bad k =>
      rw [hh] at KH
      have := hdc_bad hh
      exact (item_bad k (by omega) rb n c (n - p) (c - p) p e (64 - d) A A' v w HR es (Lib.hid KH)).mono fun en w' hx => ⟨hx.1, hB.trans (hx.2.mono hB.size)⟩
    | got ls u m =>
      rw [hh] at KH
      obtain ⟨f1, f2, f3⟩ := hdc_fits hh
      rw [hlenR] at f1
      simp only
      by_cases hfar : e - p < u + m
      · rw [if_pos hfar]
        exact (item_far ls u m rb n c (n - p) (c - p) p e (64 - d) A A' v w HR es (by omega) (by omega) (Lib.hid KH)).mono fun en w' hx => ⟨hx.1, hB.trans (hx.2.mono hB.size)⟩
      · rw [if_neg hfar]
        cases ls with
        | false =>
          rw [if_pos rfl]
          obtain ⟨b, o, c2, hs, em⟩ := cut_mid ha (p := p + u) (q := p + u + m) (by omega) (by omega) (by omega)
          rw [show p + u + m - (p + u) = m by omega, ← List.drop_drop] at hs
          rw [show p + u + m - (p + u) = m by omega] at em
          have hbw := fun (w' : World) (hb : Below w.heap.size w w') => bare_walk (some ⟨b, o, none⟩) m c2 _ w' (by unfold maxLen; omega) (hs.below hb)
          have hu0 : u = 0 → m = 1 := fun h0 => (f3 h0).2.1
          by_cases hbare : 0 < u ∧ m = 1 ∧ (R.drop p).getD u 0 < 128
          · rw [if_pos hbare]
            have hd1 : decide (m = 1 ∧ ((List.drop u (R.drop p)).take m).getD 0 0 < 128) = true := decide_eq_true ⟨hbare.2.1, by
              rw [List.getD, List.getElem?_take_of_lt (by omega), List.getElem?_drop, Nat.add_zero]; exact hbare.2.2⟩
            rw [hd1] at hbw
            exact (item_bare false u m rb n c (n - p) (c - p) p e (64 - d) A A' v w HR (by omega) es rfl hbare.1 (by omega) (Lib.hid KH) _ c2 em (Lib.hid hbw)).mono fun en w' hx => ⟨hx.1, hB.trans (hx.2.mono hB.size)⟩
          · rw [if_neg hbare]
            have hml : (List.take m (List.drop u (R.drop p))).length = m := by rw [List.length_take, List.length_drop, hlenR]; omega
            have hsm : ∀ x ∈ List.take m (List.drop u (R.drop p)), x < 256 := fun x hx => ha'.small x (List.mem_of_mem_drop (List.mem_of_mem_take hx))
            obtain ⟨cs, ho, hcs⟩ := h.row
            have KC : ∀ w' : World, Below w.heap.size w w' → Calls Try.prog 36 #[.slice (some ⟨b, o, none⟩) m c2] w' fun en w2 => (∃ v, en = .returned v ∧ w2.ownsRow w'.heap.size 5 1 v m (lb8 (List.take m (List.drop u (R.drop p))))) ∧ Below w'.heap.size w' w2 := fun w' hb => by
              rw [lb8_bb, hml]
              exact clone_walk b o m c2 _ (by omega) w' (hs.below hb)
            have KB : u = 0 ∨ (0 < u ∧ Hid (∀ w' : World, Below w.heap.size w w' → Calls Try.prog 17 #[.slice (some ⟨b, o, none⟩) m c2] w' fun en w2 => en = .returned (.bool false) ∧ w2 = w')) := by
              by_cases h0 : u = 0
              · exact .inl h0
              · refine .inr ⟨by omega, Lib.hid fun w' hb => ?_⟩
                have hd1 : decide (m = 1 ∧ ((List.drop u (R.drop p)).take m).getD 0 0 < 128) = false := decide_eq_false fun hx => hbare ⟨by omega, hx.1, by
                  have h9 := hx.2
                  rwa [List.getD, List.getElem?_take_of_lt (by omega), List.getElem?_drop, Nat.add_zero] at h9⟩
                have := hbw w' hb
                rwa [hd1] at this
            refine (item_bytes u m W0.heap.size l.length cs _ rb n c (n - p) (c - p) p e (64 - d) A A' v w HR (by omega) es hml hsm hB.size h.new (by omega) ho (by omega) (Lib.hid KH) _ c2 em KB (Lib.hid KC)).mono ?_
            rintro en w' ⟨he, hk, v', A3, c3, hblk, hown, hc3, hA3, hs8⟩
            refine ⟨he, v', hB.trans hk.below, h.new, by rw [← Nat.add_assoc]; exact hblk, _, by rw [List.length_append]; exact hown, ?_⟩
            exact (hcs.keeps hk rfl).app ⟨rfl, ⟨A3, c3, by rw [hml], by simp only [hml]; exact hc3, by simp only [hml]; unfold maxLen; omega, by simp only [hml]; exact hA3, hs8⟩, rfl, trivial⟩
        | true =>
          have hu : 0 < u := by
            apply Classical.byContradiction
            intro h0
            have := (f3 (by omega)).1
            cases this
          rw [if_neg (by decide)]
          cases sub with
          | none =>
            obtain rfl : d = 0 := hsub
            exact (item_deep u m rb n c (n - p) (c - p) p e 64 A A' v w HR (by omega) es hu (by omega) rfl (Lib.hid KH)).mono fun en w' hx => ⟨hx.1, hB.trans (hx.2.mono hB.size)⟩
          | some one =>
            obtain ⟨e', rfl, rfl, hit⟩ := hsub
            simp only
            refine item_list u m _ rb n c (n - p) (c - p) p e (64 - (e' + 1)) A A' v w HR (by omega) es hu (by omega) (by omega) (Lib.hid KH) (Lib.hid fun w' hb hblk => ?_)
            have hi := items_walk e' W0 R A n c rb (64 - e') hn (Lib.hid hit) (Lib.hid ha0.small) ha0.len _ (p + u) (p + u + m) v l ((h.below' hb).move (p + u)) (by omega) (by omega) (by omega)
            rw [show 64 - (e' + 1) + 1 = 64 - e' by omega]
            refine hi.mono fun en w2 hx => ?_
            rw [show p + u + m - (p + u) = m by omega, ← List.drop_drop] at hx
            generalize lop (rd e') (m + 1) (List.drop u (List.drop p R)) m [] = r at hx ⊢
            cases r with
            | err k => exact ⟨hx, k, hx.1⟩
            | ok l' u' =>
              obtain ⟨h1, v', h2⟩ := hx
              exact ⟨⟨h1, v', by rw [← Nat.add_assoc]; exact h2⟩, 0, h1⟩
  intro d
  induction d with
  | zero => exact fun hd => key 0 none hd rfl
  | succ d ih => exact fun hd => key (d + 1) (some (rd d)) hd ⟨d, rfl, rfl, ih (by omega)⟩
end Go.Proofs.Ytfpeliolngfkpaa
/- What the code's Decode does. -/
namespace Go.Proofs.Ytfpeliolngfkpaa
open Go.RowKit SmWord
set_option maxRecDepth 100000

theorem item_top (W0 : World) (R : List Nat) (A : Option Addr) (n c rb : Nat) (hn : n ≤ 1048576) (ha0 : ArgB W0 A n c R) (w : World) (v : Value) (h : Rd W0 w rb (.slice A n c) 0 v []) :
    Calls Try.prog 22 #[.pointer (some ⟨rb, 0, none⟩), .int .i64 (n : Int), .int .i64 0] w (ReadIs W0 rb (.slice A n c) 0 [] (rd 64 R n)) := by
  by_cases h0 : n = 0
  · subst h0
    obtain rfl : R = [] := List.length_eq_zero_iff.1 ha0.len
    have ha := ha0.below h.below
    obtain ⟨A', ha', es⟩ := cut_ahead ha (p := 0) (Nat.le_refl _)
    have KH : ∀ w' : World, Below w.heap.size w w' → Calls Try.prog 34 #[.slice A' (0 - 0) (c - 0)] w' fun en w2 => HdIs (hdc []) en ∧ Below w'.heap.size w' w2 := fun w' hb => head_walk _ _ _ _ (by omega) w' (ha'.below hb)
    exact (item_bad 3 (by decide) rb 0 c _ _ 0 0 0 A A' v w (Lib.hid h.blk) es (Lib.hid KH)).mono fun en w' hx => ⟨hx.1, h.below.trans (hx.2.mono h.below.size)⟩
  · exact item_walk W0 R A n c rb hn ha0 64 (Nat.le_refl _) w 0 v [] n h (by omega) (Nat.le_refl _) (Nat.le_refl _)
def DecIs (base : Nat) (r : Res) (e : Ending) (w' : World) : Prop := match r with
  | .err k => e = .returned (.tuple #[.slice none 0 0, .int .i64 (k : Int)])
  | .ok l _ => ∃ v, e = .returned (.tuple #[v, .int .i64 0]) ∧ Own w' base v l
theorem decode_long (R : List Nat) (A : Option Addr) (n c : Nat) (hn : n ≤ maxLen) (hR : R.length = n) (hl : 1048576 < n) (w : World) :
    Calls Try.prog 11 #[.slice A n c] w fun e w' => DecIs w.heap.size (dec R) e w' ∧ Below w.heap.size w w' := by
  have hn' : n ≤ 9223372036854775807 := hn
  have q1 : decide (1048576 < n) = true := decide_eq_true hl
  have hd : dec R = .err 4 := by rw [dec, if_pos (by omega)]
  have HD := Lib.hid hd
  clear hd
  go_enter Try.func11, Try.ntmps11
  go_wp2_with fail
  refine bodyPost_ret (v := .tuple #[.slice none 0 0, .int .i64 4]) (by simp [results, Try.results11, go_sem]) rfl ⟨by rw [HD.out]; rfl, Below.refl _ _⟩
set_option maxHeartbeats 2000000 in
theorem decode_walk (R : List Nat) (A : Option Addr) (n c : Nat) (hn : n ≤ 1048576) (w : World) (ha : ArgB w A n c R) :
    Calls Try.prog 11 #[.slice A n c] w fun e w' => DecIs w.heap.size (dec R) e w' ∧ Below w.heap.size w w' := by
  have q1 : decide (1048576 < n) = false := decide_eq_false (by omega)
  have hlen := ha.len
  have KI := Lib.hid fun w' v h => item_top w R A n c w.heap.size hn ha w' v h
  have hd1 : ∀ k, rd 64 R n = .err k → dec R = .err k := fun k h => by rw [dec, if_neg (by omega), hlen, h]
  have hd2 : ∀ l u, rd 64 R n = .ok l u → dec R = if u < n then .err 2 else .ok l u := fun l u h => by rw [dec, if_neg (by omega), hlen, h]
  have hnz := rd_nz 64 R n
  have H1 := Lib.hid hd1
  have H2 := Lib.hid hd2
  have HZ := Lib.hid hnz
  have hR0 : Rd w (w.alloc (.cells #[.slice A n c, .int .i64 0, .slice none 0 0] 55)) w.heap.size (.slice A n c) 0 (.slice none 0 0) [] := ⟨(Below.refl _ _).alloc (Nat.le_refl _) _, Nat.le_refl _, heap_alloc_new _ _, [], ⟨rfl, .inl ⟨rfl, rfl⟩⟩, trivial⟩
  have KJ := Lib.hid (KI.out _ _ hR0)
  clear ha hd1 hd2 hnz hlen hR0 KI
  go_enter Try.func11, Try.ntmps11
  go_wp2_with fail
  refine KJ.out.mono ?_
  clear KJ
  cases hr : rd 64 R n with
  | err k =>
    have HK := Lib.hid (H1.out k hr)
    have hk := HZ.out k hr
    have hk2 : ((k : Int) != 0) = true := by rw [bne_iff_ne]; omega
    clear hr H1 H2 HZ hk
    rintro e w2 ⟨rfl, b2⟩
    have B2 := Lib.hid b2
    clear b2
    go_wp2_with fail
    refine bodyPost_ret (v := .tuple #[.slice none 0 0, .int .i64 (k : Int)]) (by simp [results, Try.results11, go_sem]) rfl ⟨by rw [HK.out]; rfl, B2.out⟩
  | ok l u =>
    have HK := Lib.hid (H2.out l u hr)
    clear hr H1 H2 HZ
    rintro e w2 ⟨rfl, v2, hrd⟩
    have D2 := Lib.hid hrd
    have t1 : w2.cell? ⟨w.heap.size, 1, none⟩ = some (.int .i64 ((0 + u : Nat) : Int)) := blk_cell (j := 1) hrd.blk rfl
    have t2 : w2.cell? ⟨w.heap.size, 2, none⟩ = some v2 := blk_cell (j := 2) hrd.blk rfl
    rw [Nat.zero_add] at t1
    clear hrd
    by_cases hu : u < n
    · have q2 : decide (u < n) = true := decide_eq_true hu
      rw [if_pos hu] at HK
      clear t2
      go_wp2_with fail
      refine bodyPost_ret (v := .tuple #[.slice none 0 0, .int .i64 2]) (by simp [results, Try.results11, go_sem]) rfl ⟨by rw [HK.out]; rfl, D2.out.below⟩
    · have q2 : decide (u < n) = false := decide_eq_false hu
      rw [if_neg hu] at HK
      go_wp2_with fail
      refine bodyPost_ret (v := .tuple #[v2, .int .i64 0]) (by simp [results, Try.results11, go_sem]) rfl ⟨by rw [HK.out]; exact ⟨v2, rfl, D2.out.row⟩, D2.out.below⟩
end Go.Proofs.Ytfpeliolngfkpaa
/- The statement on encoding: its walk. -/
namespace Go.Proofs.Ytfpeliolngfkpaa
open Go.RowKit SmWord
set_option maxRecDepth 100000

theorem arg_own {w : World} {base : Nat} {v : Value} {l : List Nat} (h : w.ownsRow base 5 1 v l.length (lb8 l)) (hl : ∀ x ∈ l, x < 256) : ∃ A c, v = .slice A l.length c ∧ ArgB w A l.length c l := by
  obtain ⟨A, c, rfl, h1, h2, h3⟩ := own_bytes h hl
  exact ⟨A, c, rfl, rfl, h1, h2, h3⟩
theorem conv_arg {w w' : World} {A : Option Addr} {n c : Nat} {l : List Nat} (h : ArgB w A n c l) (hb : Below w.heap.size w w') : (convert 25 9 (.slice A n c)).run Try.prog w' = .ok (.string (strL l)) w' := by
  have := conv_bytes (c := c) (l := l) (by rw [h.len]; exact h.cells.below hb)
  rwa [h.len] at this
set_option maxHeartbeats 4000000 in
theorem encodes_great (A : Option Addr) (n c : Nat) (w : World)
    (KG : Hid (Calls Try.prog 7 #[.slice A n c] w fun e w' => e = .returned (.bool true) ∧ w' = w)) :
    Calls Try.prog 3 #[.slice A n c] w fun e w' => e = .returned (.bool true) ∧ Below w.heap.size w w' := by
  go_enter Try.func3, Try.ntmps3
  go_wp2_with fail
  refine KG.out.mono ?_
  rintro e w1 ⟨rfl, rfl⟩
  go_wp2_with fail
  refine (fixed_walk _).mono ?_
  rintro e w2 ⟨rfl, b2⟩
  have B2 := Lib.hid b2
  clear b2
  go_wp2_with fail
  go_ret
  exact ⟨rfl, B2.out⟩
set_option maxHeartbeats 8000000 in
theorem encodes_ok (X : List Nd) (F : Fo) (hone : One F) (hX : rows F = X) (hd : dps F ≤ 64) (hwt : wt X ≤ 36000) (A : Option Addr) (n c : Nat) (w : World) (ha : Arg w A n c X)
    (KG : Hid (Calls Try.prog 7 #[.slice A n c] w fun e w' => (∃ g, e = .returned (.bool g)) ∧ w' = w)) :
    Calls Try.prog 3 #[.slice A n c] w fun e w' => e = .returned (.bool true) ∧ Below w.heap.size w w' := by
  have hw := wrs_le F (by rw [hX]; omega)
  rw [hX] at hw
  have hlt := wrs_lt F (by rw [hX]; omega) (fun x hx => by
    rw [hX] at hx
    obtain ⟨i, hi⟩ := List.mem_iff_getElem?.1 hx
    exact (ha.small i x hi).1)
  have hdec := dec_wrs hone hd (by omega)
  have hn6 : n ≤ 1000000 := by have := wt_len X; have := ha.len; omega
  have HAA := Lib.hid ha
  have KE := Lib.hid fun w' (hb : Below w.heap.size w w') => encode_ok hone hX hd (by omega) (ha.below hb)
  have KR := Lib.hid fun w' (hb : Below w.heap.size w w') => rencode_ok hone hX hd (by omega) (ha.below hb)
  have HLT := Lib.hid hlt
  have HDC := Lib.hid hdec
  have HXX := Lib.hid hX
  have hsn := str_ne (strL (wrs F))
  clear hlt hdec hX ha
  go_enter Try.func3, Try.ntmps3
  go_wp2_with fail
  refine KG.out.mono ?_
  rintro e w1 ⟨⟨g, rfl⟩, rfl⟩
  clear KG
  cases g
  case true =>
    go_wp2_with fail
    refine (fixed_walk _).mono ?_
    rintro e w2 ⟨rfl, b2⟩
    have B2 := Lib.hid b2
    clear b2
    go_wp2_with fail
    go_ret
    exact ⟨rfl, B2.out⟩
  go_wp2_with fail
  refine (KE.out _ (Below.refl _ _)).mono ?_
  rintro e w2 ⟨⟨v2, rfl, o2⟩, b2⟩
  obtain ⟨A2, c2, rfl, a2⟩ := arg_own o2 HLT.out
  have B2 := Lib.hid b2
  have AA2 := Lib.hid a2
  clear b2 a2 o2
  go_wp2_with fail
  refine (KR.out _ B2.out).mono ?_
  rintro e w3 ⟨⟨v3, rfl, o3⟩, b3⟩
  obtain ⟨A3, c3, rfl, a3⟩ := arg_own o3 HLT.out
  have B3 := Lib.hid b3
  have AA3 := Lib.hid a3
  clear b3 a3 o3
  go_wp2_with fail
  refine (fixed_walk _).mono ?_
  rintro e w4 ⟨rfl, b4⟩
  have cv2 := conv_arg AA2.out (B3.out.trans (b4.mono B3.out.size))
  have cv3 := conv_arg AA3.out b4
  have B4 := Lib.hid b4
  clear b4
  go_wp2_with fail
  clear cv2 cv3 hsn
  have B24 := Lib.hid (B3.out.trans (B4.out.mono B3.out.size))
  refine (decode_walk (wrs F) A2 _ c2 (by omega) w4 (AA2.out.below B24.out)).mono ?_
  rw [HDC.out]
  rintro e w5 ⟨⟨v5, rfl, hown⟩, b5⟩
  rw [HXX.out] at hown
  obtain ⟨A5, c5, rfl, _, _, n5⟩ := hown.nodes
  rw [HAA.out.len]
  have B5 := Lib.hid b5
  have B25 := Lib.hid (B24.out.trans (b5.mono B24.out.size))
  have B15 := Lib.hid (B2.out.trans (B25.out.mono B2.out.size))
  have N5 := Lib.hid n5
  clear hown b5 n5
  go_wp2_with fail
  refine (same_walk X n c5 c A5 A hn6 HAA.out.len w5 N5.out (HAA.out.cells.below B15.out)).mono ?_
  rintro e w6 ⟨rfl, b6⟩
  have B6 := Lib.hid (B15.out.trans (b6.mono B15.out.size))
  clear b6
  go_wp2_with fail
  go_ret
  exact ⟨rfl, B6.out⟩
set_option maxHeartbeats 8000000 in
theorem encodes_bad (k : Nat) (hk : k ≠ 0) (A : Option Addr) (n c : Nat) (w : World)
    (KG : Hid (Calls Try.prog 7 #[.slice A n c] w fun e w' => (∃ g, e = .returned (.bool g)) ∧ w' = w))
    (KE : Hid (∀ w' : World, Below w.heap.size w w' → Calls Try.prog 9 #[.slice A n c] w' fun e w2 => e = .returned (.tuple #[.slice none 0 0, .int .i64 (k : Int)]) ∧ Below w'.heap.size w' w2))
    (KR : Hid (∀ w' : World, Below w.heap.size w w' → Calls Try.prog 10 #[.slice A n c] w' fun e w2 => (∃ A1 c1, e = .returned (.tuple #[.slice A1 0 c1, .int .i64 (k : Int)])) ∧ Below w'.heap.size w' w2)) :
    Calls Try.prog 3 #[.slice A n c] w fun e w' => e = .returned (.bool true) ∧ Below w.heap.size w w' := by
  have hkn : ((k : Int) != 0) = true := by rw [bne_iff_ne]; omega
  have hkk : ((k : Int) != (k : Int)) = false := by simp
  have hsn := str_ne (strL [])
  have cva := fun (A : Option Addr) (c : Nat) (w' : World) => conv_bytes (w := w') (A := A) (c := c) (l := []) ⟨(fun i hi => by cases hi), (fun h => by cases h)⟩
  simp only [List.length_nil] at cva
  go_enter Try.func3, Try.ntmps3
  go_wp2_with fail
  refine KG.out.mono ?_
  rintro e w1 ⟨⟨g, rfl⟩, rfl⟩
  clear KG
  cases g
  case true =>
    go_wp2_with fail
    refine (fixed_walk _).mono ?_
    rintro e w2 ⟨rfl, b2⟩
    have B2 := Lib.hid b2
    clear b2
    go_wp2_with fail
    go_ret
    exact ⟨rfl, B2.out⟩
  go_wp2_with fail
  refine (KE.out _ (Below.refl _ _)).mono ?_
  rintro e w2 ⟨rfl, b2⟩
  have B2 := Lib.hid b2
  clear b2
  go_wp2_with fail
  refine (KR.out _ B2.out).mono ?_
  rintro e w3 ⟨⟨A3, c3, rfl⟩, b3⟩
  have B3 := Lib.hid (B2.out.trans (b3.mono B2.out.size))
  clear b3
  go_wp2_with fail
  refine (fixed_walk _).mono ?_
  rintro e w4 ⟨rfl, b4⟩
  have B4 := Lib.hid (B3.out.trans (b4.mono B3.out.size))
  clear b4
  go_wp2_with fail
  go_ret
  exact ⟨rfl, B4.out⟩
theorem encodes_walk (X : List Nd) (A : Option Addr) (n c : Nat) (hn : n ≤ maxLen) (w : World) (ha : Arg w A n c X) :
    Calls Try.prog 3 #[.slice A n c] w fun e w' => e = .returned (.bool true) ∧ Below w.heap.size w w' := by
  have KG := great_walk X n c A hn w ha
  by_cases hg : gs X ≤ 4000
  · have hwt : wt X ≤ 36000 := by have := gs_wt X; omega
    have KG2 := Lib.hid (KG.mono (R' := fun e w' => (∃ g, e = .returned (.bool g)) ∧ w' = w) fun e w' h => ⟨h.1.imp fun g hh => hh.1, h.2⟩)
    by_cases hF : ∃ F, One F ∧ rows F = X
    · obtain ⟨F, hone, hX⟩ := hF
      by_cases hd : dps F ≤ 64
      · exact encodes_ok X F hone hX hd hwt A n c w ha KG2
      · exact encodes_bad 4 (by decide) A n c w KG2 (Lib.hid fun w' hb => encode_deep hone hX hd (by omega) (ha.below hb)) (Lib.hid fun w' hb => rencode_deep hone hX hd (by omega) (ha.below hb))
    · exact encodes_bad 2 (by decide) A n c w KG2 (Lib.hid fun w' hb => encode_no hF (by omega) (ha.below hb)) (Lib.hid fun w' hb => rencode_no hF (by omega) (ha.below hb))
  · refine encodes_great A n c w (Lib.hid (KG.mono fun e w' h => ⟨?_, h.2⟩))
    obtain ⟨g, rfl, hgf⟩ := h.1
    cases g
    · exact absurd (hgf rfl) hg
    · rfl
end Go.Proofs.Ytfpeliolngfkpaa
