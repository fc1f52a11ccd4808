/- What the document's read does with lists. -/
import Derived.Test.YtfpeliolngfkpaaRlk
namespace Go.Proofs.Ytfpeliolngfkpaa
open Go.RowKit SmWord
set_option maxRecDepth 100000

/-- A list's answer, from what its items' loop comes to. -/
def lres (um : Nat) (r : Res) : Res := match r with
  | .err e => .err e
  | .ok l _ => .ok (⟨true, [], (l.length : Int)⟩ :: l) um
theorem RowOf.one {w : World} : ∀ {cs : List Value} {l : List Nd}, RowOf w cs l → ∀ x ∈ cs, x.oneCell' = true
  | [], [], _ => fun x hx => by cases hx
  | [], _ :: _, h => h.elim
  | [_], [], h => h.elim
  | [_], _ :: _, h => h.elim
  | [_, _], [], h => h.elim
  | [_, _], _ :: _, h => h.elim
  | _ :: _ :: _ :: _, [], h => h.elim
  | a :: b :: c :: cs, y :: l, h => fun x hx => by
    obtain ⟨h1, ⟨A, k, h2, _⟩, h4, h5⟩ := h
    simp only [List.mem_cons] at hx
    rcases hx with rfl | rfl | rfl | hx
    · rw [h1]; rfl
    · rw [h2]; rfl
    · rw [h4]; rfl
    · exact RowOf.one h5 x hx
set_option maxHeartbeats 4000000 in
theorem read_list (b off n c p st dp c0 u m d : Nat) (hn : n ≤ 1048576) (hp : p < n) (h128 : 128 ≤ c0) (w : World) (z0 : w.cell? ⟨b, off + p, none⟩ = some (.int .u8 (c0 : Int))) (hb : b < w.heap.size) (R : List Nat) (hlen : R.length = n) (hRb : Hid (∀ x ∈ R, x < 256)) (hu : p + u + m ≤ n) (hu0 : 0 < u) (hst : p + u + m ≤ st) (hdp : dp < 64)
    (IH : Hid (∀ (w' : World) (q : Nat), Below w.heap.size w w' → q < p + u + m → Calls Try.prog 23 #[.slice (some ⟨b, off, none⟩) n c, .int .i64 (q : Int), .int .i64 ((p + u + m : Nat) : Int), .int .i64 ((dp + 1 : Nat) : Int)] w' fun e w2 => RRIs w'.heap.size q (rd d (R.drop q) (p + u + m - q)) e w2 ∧ Below w'.heap.size w' w2)) (KH : Hid (∀ w' : World, Below w.heap.size w w' → Calls Try.prog 37 #[.slice (some ⟨b, off, none⟩) n c, .int .i64 (p : Int)] w' fun e w2 => (e = .returned (.tuple #[.bool true, .int .i64 ((p + u : Nat) : Int), .int .i64 (m : Int), .int .i64 0])) ∧ w2 = w')) :
    Calls Try.prog 23 #[.slice (some ⟨b, off, none⟩) n c, .int .i64 (p : Int), .int .i64 (st : Int), .int .i64 (dp : Int)] w fun e w' => RRIs w.heap.size p (lres (u + m) (lop (rd d) (m + 1) (R.drop (p + u)) m [])) e w' ∧ Below w.heap.size w w' := by
  have q0 : decide (n ≤ p) = false := decide_eq_false (by omega)
  have q1 : decide (c0 < 128) = false := decide_eq_false (by omega)
  have b1 := (Below.refl w.heap.size w).alloc (Nat.le_refl _) (.cells #[] 43)
  have z1 : (w.alloc (.cells #[] 43)).cell? ⟨b, off + p, none⟩ = some (.int .u8 (c0 : Int)) := (b1.cell (p := ⟨b, off + p, none⟩) hb).trans z0
  have B1 := Lib.hid b1
  clear b1
  obtain ⟨RES, hRES⟩ : ∃ RES, lop (rd d) (m + 1) (R.drop (p + u)) m [] = RES := ⟨_, rfl⟩
  rw [hRES]
  obtain ⟨pu, hpu⟩ : ∃ pu, p + u = pu := ⟨_, rfl⟩
  rw [hpu] at KH
  obtain ⟨nl, hnl⟩ : ∃ nl, n - pu = nl := ⟨_, rfl⟩
  have e1 : (n : Int) - (pu : Int) = (nl : Int) := by omega
  obtain ⟨E, hE⟩ : ∃ E, pu + m = E := ⟨_, rfl⟩
  have e2 : (pu : Int) + (m : Int) = (E : Int) := by omega
  rw [hpu, hE] at IH
  rw [hpu] at hRES
  obtain ⟨dq, hdq⟩ : ∃ dq, dp + 1 = dq := ⟨_, rfl⟩
  rw [hdq] at IH
  have e3 : (dp : Int) + 1 = (dq : Int) := by omega
  have q2 : decide (nl < m) = false := decide_eq_false (by omega)
  have q3 : decide (st < E) = false := decide_eq_false (by omega)
  have q6 : decide (64 ≤ dp) = false := decide_eq_false (by omega)
  have hm6 : m ≤ 1048576 := by omega
  have hE6 : E ≤ n := by omega
  have hppu : p < pu := by omega
  have HPU := Lib.hid (And.intro hpu hE)
  have HRS := Lib.hid hRES
  have HLN := Lib.hid hlen
  obtain ⟨i0, hi0, hz0, hz1, hz2⟩ := Try.partsN
  have HO1 := Lib.hid (own_fresh B1.out.size ⟨true, [], 0⟩ none 0 (Nat.le_refl _) (Nat.zero_le _) (fun _ => ⟨rfl, rfl⟩) ⟨(fun x hx => by cases hx), (fun h0 => by cases h0)⟩)
  have B2 := Lib.hid (B1.out.alloc B1.out.size (.cells #[.bool true, .slice none 0 0, .int .i64 0] 43))
  clear hpu hnl hE hst hu hRES hdq hlen
  go_enter Try.func23, Try.ntmps23
  go_wp2_with fail
  refine (KH.out _ B1.out).mono ?_
  rintro e w1 ⟨rfl, rfl⟩
  go_wp2_with fail
  have HO2 : Hid (Own ((w.alloc (.cells #[] 43)).alloc (.cells #[.bool true, .slice none 0 0, .int .i64 0] 43)) w.heap.size (.slice (some ⟨w.heap.size + 1, 0, none⟩) 1 1) [⟨true, [], 0⟩]) := Lib.hid (by have := HO1.out; simpa using this)
  clear HO1 z0 z1 B1 KH
  generalize ((w.alloc (.cells #[] 43)).alloc (.cells #[.bool true, .slice none 0 0, .int .i64 0] 43)) = W at *
  go_loopw [17, 18] (fun v kv wr => ∃ (q : Nat) (acc : List Nd) (fuel : Nat), kv = .int .i64 (q : Int) ∧ Below w.heap.size w wr ∧ Own wr w.heap.size v (⟨true, [], 0⟩ :: acc) ∧ pu ≤ q ∧ q ≤ E ∧ acc.length ≤ q ∧ E - q < fuel ∧ lop (rd d) fuel (R.drop q) (E - q) acc = RES) (fun _ kv _ => E + 1 - (intOf kv).toNat)
  case atStart => exact ⟨pu, [], m + 1, rfl, B2.out, HO2.out, Nat.le_refl _, by have := HPU.out.2; omega, Nat.zero_le _, by have := HPU.out.2; omega, by rw [show E - pu = m by have := HPU.out.2; omega]; exact HRS.out⟩
  case round =>
    obtain ⟨q, acc, fuel, rfl, hb, hown, hpq, hqE, hac, hfu, hlop⟩ := hrel
    obtain ⟨f, rfl⟩ : ∃ f, fuel = f + 1 := ⟨fuel - 1, by omega⟩
    clear HRS B2 HO2
    have HB := Lib.hid hb
    have HOW := Lib.hid hown
    have hsz := hb.size
    by_cases hlt : q < E
    · have q7 : decide (q < E) = true := decide_eq_true hlt
      rw [lop, if_neg (by omega)] at hlop
      have IH2 := Lib.hid (IH.out wr q HB.out hlt)
      cases hr : rd d (R.drop q) (E - q) with
      | err k =>
        have hk := rd_nz d _ _ _ hr
        have hk2 : ((k : Int) != 0) = true := by rw [bne_iff_ne]; omega
        rw [hr] at hlop
        simp only at hlop
        have HR2 := Lib.hid hlop
        rw [hr] at IH2
        clear hr hlop hk hb hown HOW
        go_wp2_with fail
        refine IH2.out.mono ?_
        rintro e w2 ⟨⟨A1, c1, rfl⟩, b2⟩
        have B3 := Lib.hid (HB.out.trans (b2.mono HB.out.size))
        clear b2 IH2 HB
        go_wp2_with fail
        refine bodyPost_ret (v := .tuple #[.slice (some ⟨w.heap.size, 0, none⟩) 0 0, .int .i64 0, .int .i64 (k : Int)]) (by simp [results, Try.results23, go_sem]) rfl ⟨by rw [← HR2.out]; exact ⟨_, _, rfl⟩, B3.out⟩
      | ok l' u' =>
        obtain ⟨S, s1, s2, s3, s4, s5, _⟩ := rd_sound d (R.drop q) (E - q) l' u' (fun x hx => hRb.out x (List.mem_of_mem_drop hx)) (by rw [List.length_drop, HLN.out]; omega) (by omega) hr
        have s6 := one_wrs s1
        have s7 := rows_wrs S
        have s8 := one_pos s1
        rw [s2] at s7 s8
        rw [hr] at hlop
        simp only [List.drop_drop] at hlop
        have HR2 := Lib.hid hlop
        rw [hr] at IH2
        obtain ⟨A1, c1, rfl, _, _, _⟩ := hown.nodes
        clear hr hlop hb hown s1 s2 s3
        go_wp2_with fail
        refine IH2.out.mono ?_
        rintro e w2 ⟨⟨v2, rfl, hown2⟩, b2⟩
        have B3 := Lib.hid (HB.out.trans (b2.mono HB.out.size))
        have O3 := HOW.out.below b2
        have hsz3 := B3.out.size
        obtain ⟨cs, ho, hcs⟩ := O3
        obtain ⟨cs2, ho2, hcs2⟩ := hown2
        have h2l := ho2.1
        have hk2 : Keeps w.heap.size (fun t => t == 43) w2 w2 := Keeps.refl _ _ _
        rcases ho2.2 with ⟨_, h0⟩ | ⟨g2, cap2, cur2, rfl, hgb2, hg2, _, _, hcs2z, ht2⟩
        · omega
        have hone2 : ∀ x ∈ cs2, x.oneCell' = true := RowOf.one hcs2
        have hnews : ∀ j u, cs2[j]? = some u → w2.cell? ((⟨g2, 0, none⟩ : Addr).add j) = some u := fun j u hj => by
          have hadd : (⟨g2, 0, none⟩ : Addr).add j = ⟨g2, j, none⟩ := by unfold Addr.add; split <;> simp_all
          have hjl : j < l'.length * 3 := by have := (List.getElem?_eq_some_iff.1 hj).1; omega
          rw [hadd]
          refine blk_cell hg2 ?_
          rw [← Array.getElem?_toList, ← hj, ← ht2, List.getElem?_take_of_lt hjl]
        have HN := Lib.hid (And.intro hnews hone2)
        have HOO := Lib.hid ho
        have HC1 := Lib.hid hcs
        have HC2 := Lib.hid hcs2
        have hal : (⟨true, [], 0⟩ :: acc : List Nd).length = acc.length + 1 := rfl
        rw [hal] at HOO ⊢
        clear ho ho2 hcs hcs2 hnews hone2 IH2 HB HOW b2 hk2 hg2 ht2
        go_wp2_with (at_builtin; refine wpList_append_lies _ rfl _ _ 22 rfl w.heap.size 43 i0 (.agg zN) 3 40 Try.underlying22 hi0 hz0 hz1 hz2 rfl (by decide) (.slice A1 (acc.length + 1) c1) (acc.length + 1) cs rfl HOO.out ⟨g2, 0, none⟩ l'.length cap2 cs2 rfl h2l HN.out.1 HN.out.2 s8 (by unfold maxLen; omega) (by omega) hsz3 _ rfl ?_)
        intro ng ncap w5 hown5 hgrow _ _
        have k5 : Keeps w.heap.size (fun t => t == 43) w2 w5 := (Keeps.refl _ _ w2).grown hgrow HOO.out rfl hsz3
        have O5 : Own w5 w.heap.size (.slice (some ⟨ng, 0, none⟩) (acc.length + 1 + l'.length) ncap) (⟨true, [], 0⟩ :: (acc ++ l')) := ⟨cs ++ cs2, by
          have e : (⟨true, [], 0⟩ :: (acc ++ l') : List Nd).length = acc.length + 1 + l'.length := by simp; omega
          rw [e]; exact hown5, (HC1.out.keeps k5 rfl).app (HC2.out.keeps k5 rfl)⟩
        have H5 := Lib.hid O5
        have B5 := Lib.hid (B3.out.trans k5.below)
        clear hown5 hgrow k5 O5
        go_wp2_with fail
        refine ⟨⟨q + u', acc ++ l', f, by rw [s5]; simp, B5.out, H5.out, by omega, by omega, by simp; omega, by omega, ?_⟩, by simp [intOf]; omega⟩
        rw [show E - (q + u') = E - q - u' by omega]
        exact HR2.out
    · have q7 : decide (q < E) = false := decide_eq_false hlt
      obtain rfl : q = E := by omega
      rw [lop, if_pos (by omega)] at hlop
      subst hlop
      obtain ⟨g, cap, cur, rfl, hgb, hg, hgj, hset⟩ := Own.size (l := []) hown
      simp only [List.length_nil, Nat.zero_mul, Nat.zero_add] at hgj hset
      obtain ⟨na, hna⟩ : ∃ na, acc.length = na := ⟨_, rfl⟩
      obtain ⟨tt, htt⟩ : ∃ tt, 1 + na = tt := ⟨_, rfl⟩
      have e8 : (tt : Int) - 1 = (na : Int) := by omega
      have i1 : (0 : Int) < (tt : Int) := by omega
      have i2 : 0 < tt := by omega
      simp only [List.length_nil, Nat.zero_add]
      rw [hna, htt] at hset ⊢
      have HSET := Lib.hid (hset wr (Below.refl _ _) (na : Int))
      have HNA := Lib.hid hna
      have hsc : Below w.heap.size w (wr.setCell ⟨g, 2, none⟩ (.int .i64 (na : Int))) := hb.setCell hgb _
      have HSC := Lib.hid hsc
      have z5 := blk_frozen (j := 2) hg
      obtain ⟨x1, u1⟩ : ∃ x, wr.cell? ⟨g, 2, none⟩ = some x := ⟨_, blk_cell (j := 2) hg (Array.getElem?_eq_getElem hgj)⟩
      have hna6 : na ≤ 1048576 := by omega
      clear hset hna htt hsc hg hgj hown hb HB HOW IH
      go_wp2_with fail
      refine bodyPost_ret (v := .tuple #[.slice (some ⟨g, 0, none⟩) tt cap, .int .i64 (q : Int), .int .i64 0]) (by simp [results, Try.results23, go_sem]) rfl ⟨⟨.slice (some ⟨g, 0, none⟩) tt cap, ?_, ?_⟩, HSC.out⟩
      · exact congrArg (fun x : Nat => Ending.returned (.tuple #[.slice (some ⟨g, 0, none⟩) tt cap, .int .i64 (x : Int), .int .i64 0])) (by have := HPU.out; omega)
      · rw [HNA.out]
        exact HSET.out
end Go.Proofs.Ytfpeliolngfkpaa
/- What the document's read does, by the depth; its Decode. -/
namespace Go.Proofs.Ytfpeliolngfkpaa
open Go.RowKit SmWord
set_option maxRecDepth 100000

theorem hdp_nz {c : Nat} {T : List Nat} {k : Nat} (h : hdp c T = .bad k) : k ≠ 0 := by
  unfold hdp at h
  simp only at h
  repeat' split at h
  all_goals first | (cases h; done) | (cases h; decide)
theorem hdp_got {c : Nat} {T : List Nat} {ls : Bool} {u m : Nat} (h : hdp c T = .got ls u m) (hc : c < 256) : 0 < u ∧ u ≤ T.length + 1 ∧ m ≤ 1000000000 := by
  have hcv : ∀ l, cval l ≤ 1000000000 := fun l => by rw [cval_bval]; omega
  unfold hdp at h
  simp only at h
  repeat' split at h
  all_goals first
    | (cases h; done)
    | (cases h
       refine ⟨by omega, by omega, ?_⟩
       first | omega | exact hcv _)
/-- What read promises at a depth. -/
def ReadAt (d : Nat) (R : List Nat) (A : Option Addr) (n c : Nat) : Prop := ∀ (w : World) (p st : Nat), ArgB w A n c R → (p < st ∧ st ≤ n ∨ n ≤ p) →
  Calls Try.prog 23 #[.slice A n c, .int .i64 (p : Int), .int .i64 (st : Int), .int .i64 ((64 - d : Nat) : Int)] w fun e w' => RRIs w.heap.size p (rd d (R.drop p) (st - p)) e w' ∧ Below w.heap.size w w'
set_option maxHeartbeats 1000000 in
theorem rread_walk (R : List Nat) (A : Option Addr) (n c : Nat) (hn : n ≤ 1048576) : ∀ d, d ≤ 64 → ReadAt d R A n c := by
  have key : ∀ (d : Nat) (sub : Option (List Nat → Nat → Res)), d ≤ 64 → (match sub with | none => d = 0 | some one => ∃ e, d = e + 1 ∧ one = rd e ∧ ReadAt e R A n c) →
      ∀ (w : World) (p st : Nat), ArgB w A n c R → (p < st ∧ st ≤ n ∨ n ≤ p) →
      Calls Try.prog 23 #[.slice A n c, .int .i64 (p : Int), .int .i64 (st : Int), .int .i64 ((64 - d : Nat) : Int)] w fun e w' => RRIs w.heap.size p (rdStep sub (R.drop p) (st - p)) e w' ∧ Below w.heap.size w w' := by
    intro d sub hd hsub w p st ha hp
    by_cases hpn : n ≤ p
    · rw [List.drop_eq_nil_of_le (by rw [ha.len]; exact hpn)]
      exact read_out A n c p st (64 - d) hpn w
    · have hp2 : p < st ∧ st ≤ n := by rcases hp with h | h; exact h; omega
      obtain ⟨b, off, rfl, hb, hc⟩ := ha.cells.cells (by omega)
      obtain ⟨c0, hc0⟩ : ∃ c0, R.getD p 0 = c0 := ⟨_, rfl⟩
      have z0 := hc p (by omega)
      simp only [hc0] at z0
      have hc256 : c0 < 256 := by rw [← hc0]; exact ha.cells.small p (by omega)
      have hdr : R.drop p = c0 :: R.drop (p + 1) := by
        have hl : p < R.length := by rw [ha.len]; omega
        rw [List.drop_eq_getElem_cons hl, ← hc0, List.getD, List.getElem?_eq_getElem hl]
        rfl
      have hlT : (R.drop (p + 1)).length = n - (p + 1) := by rw [List.length_drop, ha.len]
      by_cases h128 : c0 < 128
      · have hr : rdStep sub (R.drop p) (st - p) = .ok [⟨false, [c0], 0⟩] 1 := by rw [hdr]; unfold rdStep; simp only; rw [if_pos h128]
        rw [hr]
        exact read_bare b off n c p st (64 - d) c0 hn (by omega) h128 w z0 hb
      · have KH : ∀ w' : World, Below w.heap.size w w' → Calls Try.prog 37 #[.slice (some ⟨b, off, none⟩) n c, .int .i64 (p : Int)] w' fun e w2 => RHIs p (hdp c0 (R.drop (p + 1))) e ∧ w2 = w' := fun w' hb' => by
          have := rheadd_walk R (some ⟨b, off, none⟩) n c p hn (by omega) w' (ha.below hb') (by rw [hc0]; omega)
          rwa [hc0] at this
        have hst : rdStep sub (R.drop p) (st - p) = match hdp c0 (R.drop (p + 1)) with
            | .bad e => .err e
            | .got ls u n =>
              if (R.drop p).length - u < n then .err 3
              else if st - p < u + n then .err 2
              else if ls = false then (if n = 1 ∧ (R.drop p).getD u 0 < 128 then .err 2 else .ok [⟨false, ((R.drop p).drop u).take n, 0⟩] (u + n))
              else match sub with
                | none => .err 4
                | some one => lres (u + n) (lop one (n + 1) ((R.drop p).drop u) n []) := by
          rw [hdr]
          conv => lhs; unfold rdStep
          simp only
          rw [if_neg h128]
          cases hdp c0 (R.drop (p + 1)) with
          | bad k => rfl
          | got ls u m => cases sub <;> rfl
        rw [hst]
        cases hh : hdp c0 (R.drop (p + 1)) with
        | bad k =>
          rw [hh] at KH
          exact read_hbad b off n c p st (64 - d) c0 k hn (by omega) (by omega) w z0 hb (hdp_nz hh) (Lib.hid KH)
        | got ls u m =>
          rw [hh] at KH
          obtain ⟨f1, f2, f3⟩ := hdp_got hh hc256
          rw [hlT] at f2
          have hll : (R.drop p).length = n - p := by rw [List.length_drop, ha.len]
          simp only [hll]
          by_cases hfar : n - p - u < m
          · rw [if_pos hfar]
            exact read_far3 b off n c p st (64 - d) c0 u m hn (by omega) (by omega) w z0 hb ls (by omega) f3 (by omega) (Lib.hid KH)
          · rw [if_neg hfar]
            by_cases hfar2 : st - p < u + m
            · rw [if_pos hfar2]
              exact read_far2 b off n c p st (64 - d) c0 u m hn (by omega) (by omega) w z0 hb ls (by omega) (by omega) (Lib.hid KH)
            · rw [if_neg hfar2]
              cases ls with
              | false =>
                rw [if_pos rfl]
                have hgd : (R.drop p).getD u 0 = R.getD (p + u) 0 := by rw [List.getD, List.getElem?_drop, List.getD]
                rw [hgd]
                by_cases hsh : m = 1 ∧ R.getD (p + u) 0 < 128
                · rw [if_pos hsh]
                  exact read_short b off n c p st (64 - d) c0 u m _ hn (by omega) (by omega) w z0 hb (by omega) (by omega) hsh.1 hsh.2 (hc (p + u) (by omega)) (Lib.hid KH)
                · rw [if_neg hsh]
                  obtain ⟨b2, o2, c2, hs, em⟩ := cut_mid ha (p := p + u) (q := p + u + m) (by omega) (by omega) (by omega)
                  rw [show p + u + m - (p + u) = m by omega, ← List.drop_drop] at hs
                  rw [show p + u + m - (p + u) = m by omega] at em
                  have hml : (List.take m (List.drop u (R.drop p))).length = m := by rw [List.length_take, List.length_drop, hll]; omega
                  have hsm : ∀ x ∈ List.take m (List.drop u (R.drop p)), x < 256 := fun x hx => ha.small x (List.mem_of_mem_drop (List.mem_of_mem_drop (List.mem_of_mem_take hx)))
                  by_cases hm1 : m = 1
                  · exact (read_stro b off n c p st (64 - d) c0 u m c2 b2 o2 hn (by omega) (by omega) w z0 hb _ hml hsm (by omega) (by omega) _ hm1 (by have : ¬ R.getD (p + u) 0 < 128 := fun h => hsh ⟨hm1, h⟩; omega) (hc (p + u) (by omega)) hs em (Lib.hid KH)).mono fun e w' h => by rw [Nat.add_assoc p u m] at h; exact h
                  · exact (read_strn b off n c p st (64 - d) c0 u m c2 b2 o2 hn (by omega) (by omega) w z0 hb _ hml hsm (by omega) (by omega) hm1 hs em (Lib.hid KH)).mono fun e w' h => by rw [Nat.add_assoc p u m] at h; exact h
              | true =>
                rw [if_neg (by decide)]
                cases sub with
                | none =>
                  obtain rfl : d = 0 := hsub
                  exact read_deep b off n c p st 64 c0 u m hn (by omega) (by omega) w z0 hb (by omega) (by omega) rfl (Lib.hid KH)
                | some one =>
                  obtain ⟨e', rfl, rfl, hit⟩ := hsub
                  simp only [List.drop_drop]
                  refine read_list b off n c p st (64 - (e' + 1)) c0 u m e' hn (by omega) (by omega) w z0 hb R ha.len (Lib.hid ha.small) (by omega) f1 (by omega) (by omega) (Lib.hid fun w' q hb' hq => ?_) (Lib.hid KH)
                  have := hit w' q (p + u + m) (ha.below hb') (.inl ⟨hq, by omega⟩)
                  rwa [show 64 - (e' + 1) + 1 = 64 - e' by omega]
  intro d
  induction d with
  | zero => exact fun hd => key 0 none hd rfl
  | succ d ih => exact fun hd => key (d + 1) (some (rd d)) hd ⟨d, rfl, rfl, ih (by omega)⟩
def RDIs (base : Nat) (r : Res) (e : Ending) (w' : World) : Prop := match r with
  | .err k => ∃ A1 c1, e = .returned (.tuple #[.slice A1 0 c1, .int .i64 (k : Int)])
  | .ok l _ => ∃ v, e = .returned (.tuple #[v, .int .i64 0]) ∧ Own w' base v l
set_option maxHeartbeats 1000000 in
theorem rdecode_walk (R : List Nat) (A : Option Addr) (n c : Nat) (hn : n ≤ 1048576) (w : World) (ha : ArgB w A n c R) :
    Calls Try.prog 13 #[.slice A n c] w fun e w' => RDIs w.heap.size (dec R) e w' ∧ Below w.heap.size w w' := by
  have q1 : decide (1048576 < n) = false := decide_eq_false (by omega)
  have hlen := ha.len
  have hd1 : ∀ k, rd 64 R n = .err k → dec R = .err k := fun k h => by rw [dec, if_neg (by omega), hlen, h]
  have hd2 : ∀ l u, rd 64 R n = .ok l u → dec R = if u < n then .err 2 else .ok l u := fun l u h => by rw [dec, if_neg (by omega), hlen, h]
  have hnz := rd_nz 64 R n
  have H1 := Lib.hid hd1
  have H2 := Lib.hid hd2
  have HZ := Lib.hid hnz
  have b1 := (Below.refl w.heap.size w).alloc (Nat.le_refl _) (.cells #[] 43)
  have KR := rread_walk R A n c hn 64 (Nat.le_refl _) _ 0 n (ha.below b1) (by omega)
  simp only [Nat.sub_self, Nat.sub_zero, List.drop_zero] at KR
  have KJ := Lib.hid KR
  have B1 := Lib.hid b1
  clear ha hd1 hd2 hnz hlen KR b1
  go_enter Try.func13, Try.ntmps13
  go_wp2_with fail
  refine KJ.out.mono ?_
  clear KJ
  cases hr : rd 64 R n with
  | err k =>
    have HK := Lib.hid (H1.out k hr)
    have hk := HZ.out k hr
    have hk2 : ((k : Int) != 0) = true := by rw [bne_iff_ne]; omega
    clear hr H1 H2 HZ hk
    rintro e w2 ⟨⟨A1, c1, rfl⟩, b2⟩
    have B2 := Lib.hid (B1.out.trans (b2.mono B1.out.size))
    clear b2
    go_wp2_with fail
    refine bodyPost_ret (v := .tuple #[.slice (some ⟨w.heap.size, 0, none⟩) 0 0, .int .i64 (k : Int)]) (by simp [results, Try.results13, go_sem]) rfl ⟨by rw [HK.out]; exact ⟨_, _, rfl⟩, B2.out⟩
  | ok l u =>
    have HK := Lib.hid (H2.out l u hr)
    clear hr H1 H2 HZ
    rintro e w2 ⟨⟨v2, rfl, hown⟩, b2⟩
    rw [Nat.zero_add]
    have B2 := Lib.hid (B1.out.trans (b2.mono B1.out.size))
    have HO := Lib.hid hown
    clear b2 hown
    by_cases hu : u < n
    · have q2 : decide (u < n) = true := decide_eq_true hu
      rw [if_pos hu] at HK
      go_wp2_with fail
      refine bodyPost_ret (v := .tuple #[.slice (some ⟨w.heap.size, 0, none⟩) 0 0, .int .i64 2]) (by simp [results, Try.results13, go_sem]) rfl ⟨by rw [HK.out]; exact ⟨_, _, rfl⟩, B2.out⟩
    · have q2 : decide (u < n) = false := decide_eq_false hu
      rw [if_neg hu] at HK
      go_wp2_with fail
      refine bodyPost_ret (v := .tuple #[v2, .int .i64 0]) (by simp [results, Try.results13, go_sem]) rfl ⟨by
        rw [HK.out]
        obtain ⟨cs, ho, hcs⟩ := HO.out
        exact ⟨v2, rfl, cs, ho.mono B1.out.size, hcs⟩, B2.out⟩
end Go.Proofs.Ytfpeliolngfkpaa
/- The statement on decoding: its walk. -/
namespace Go.Proofs.Ytfpeliolngfkpaa
open Go.RowKit SmWord
set_option maxRecDepth 100000

theorem wt_wrs : ∀ F : Fo, wt (rows F) ≤ 10 * (wrs F).length
  | .no => by simp [rows, wt]
  | .st b nx => by
    have h1 := wt_wrs nx
    have h2 := ws_long b
    have h3 : b.length ≤ (ws b).length := by unfold ws; split <;> simp
    simp only [rows, wrs, List.length_append, wt_cons]
    omega
  | .li k nx => by
    have h1 := wt_wrs nx
    have h2 := wt_wrs k
    have h3 := hea_long (wrs k).length 64
    simp only [rows, wrs, List.length_append, wt_cons, wt_app, List.length_nil]
    omega
theorem rows_mem : ∀ F : Fo, ∀ x ∈ rows F, ∀ y ∈ x.by', y ∈ wrs F
  | .no => fun x hx => by cases hx
  | .st b nx => fun x hx y hy => by
    simp only [rows, List.mem_cons] at hx
    simp only [wrs, List.mem_append]
    rcases hx with rfl | hx
    · left
      unfold ws
      split
      · exact hy
      · simp only [List.mem_append]; exact .inr hy
    · exact .inr (rows_mem nx x hx y hy)
  | .li k nx => fun x hx y hy => by
    simp only [rows, List.mem_cons, List.mem_append] at hx
    simp only [wrs, List.mem_append]
    rcases hx with rfl | hx | hx
    · cases hy
    · exact .inl (.inr (rows_mem k x hx y hy))
    · exact .inr (rows_mem nx x hx y hy)
theorem decodes_long (A : Option Addr) (n c : Nat) (hn : n ≤ maxLen) (hl : 4000 < n) (w : World) :
    Calls Try.prog 4 #[.slice A n c] w fun e w' => e = .returned (.bool true) ∧ Below w.heap.size w w' := by
  have hn' : n ≤ 9223372036854775807 := hn
  have q1 : decide (4000 < n) = true := decide_eq_true hl
  go_enter Try.func4, Try.ntmps4
  go_wp2_with fail
  refine (fixed_walk _).mono ?_
  rintro e w2 ⟨rfl, b2⟩
  have B2 := Lib.hid b2
  clear b2
  go_wp2_with fail
  go_ret
  exact ⟨rfl, B2.out⟩
set_option maxHeartbeats 8000000 in
theorem decodes_core (R : List Nat) (A : Option Addr) (n c : Nat) (hn : n ≤ 4000) (w : World) (ha : ArgB w A n c R) :
    Calls Try.prog 4 #[.slice A n c] w fun e w' => e = .returned (.bool true) ∧ Below w.heap.size w w' := by
  have q1 : decide (4000 < n) = false := decide_eq_false (by omega)
  have hsn := str_ne (strL R)
  have hse := str_eq (strL R)
  have HA := Lib.hid ha
  have B0 : Below w.heap.size w (w.alloc (.cells #[] 5)) := (Below.refl _ _).alloc (Nat.le_refl _) _
  have HB := Lib.hid B0
  have HO := Lib.hid (own_none w (base := w.heap.size) (Nat.le_refl _))
  have HS := Lib.hid (ha.cells.below B0)
  have HNIL := Lib.hid ha.nil
  have hsz := B0.size
  clear B0 ha
  go_enter Try.func4, Try.ntmps4
  go_wp2_with (at_builtin; refine append_sl rfl _ _ rfl w.heap.size _ 0 [] rfl HO.out _ n c _ rfl HNIL.out HS.out (by omega) hsz ?_)
  intro v1 w1 o1 g1
  have b1 := HB.out.grown g1 hsz (fun b hb' => (HO.out.lt b hb').1)
  obtain ⟨A1, c1, rfl, a1⟩ := arg_own (l := R) (by rw [lb8_bb, HA.out.len]; simpa using o1) HA.out.small
  rw [HA.out.len] at a1 ⊢
  have B1 := Lib.hid b1
  have AA1 := Lib.hid a1
  have KD := Lib.hid (decode_walk R A1 n c1 (by omega) w1 a1)
  have KR := Lib.hid fun w' (hb : Below w.heap.size w w') => rdecode_walk R A n c (by omega) w' (HA.out.below hb)
  clear o1 g1 b1 a1 HO HS HNIL HB
  go_wp2_with fail
  refine KD.out.mono ?_
  clear KD
  cases hr : dec R with
  | err k =>
    have hkn : k ≠ 0 := by
      rw [dec, if_neg (by rw [HA.out.len]; omega)] at hr
      cases hrd : rd 64 R R.length with
      | err k' => rw [hrd] at hr; cases hr; exact rd_nz _ _ _ _ hrd
      | ok l u => rw [hrd] at hr; simp only at hr; split at hr <;> cases hr; decide
    have hk2 : ((k : Int) != 0) = true := by rw [bne_iff_ne]; omega
    have hkk : ((k : Int) != (k : Int)) = false := by simp
    have KR2 := KR
    rw [hr] at KR2
    clear hr hkn KR
    rintro e w2 ⟨rfl, b2⟩
    have B2 := Lib.hid b2
    have B02 := Lib.hid (B1.out.trans (b2.mono B1.out.size))
    clear b2
    go_wp2_with fail
    refine (KR2.out _ B02.out).mono ?_
    rintro e w3 ⟨⟨A3, c3, rfl⟩, b3⟩
    have B3 := Lib.hid b3
    have B03 := Lib.hid (B02.out.trans (b3.mono B02.out.size))
    clear b3 KR2
    go_wp2_with fail
    refine (fixed_walk _).mono ?_
    rintro e w4 ⟨rfl, b4⟩
    have B4 := Lib.hid b4
    have B04 := Lib.hid (B03.out.trans (b4.mono B03.out.size))
    clear b4
    go_wp2_with fail
    refine (same_walk [] 0 0 c3 none A3 (by omega) rfl w4 ⟨fun h => by simp at h⟩ ⟨fun h => by simp at h⟩).mono ?_
    rintro e w5 ⟨rfl, b5⟩
    have cv1 := conv_arg AA1.out (B2.out.trans ((B3.out.trans ((B4.out.trans (b5.mono B4.out.size)).mono B3.out.size)).mono B2.out.size))
    have b05 := B04.out.trans (b5.mono B04.out.size)
    have cv2 := conv_arg HA.out b05
    have B05 := Lib.hid b05
    clear b5 b05
    go_wp2_with fail
    go_ret
    exact ⟨rfl, B05.out⟩
  | ok l u =>
    obtain ⟨S, s1, s2, s3, s4⟩ := dec_sound HA.out.small hr
    have hwl : (wrs S).length = n := by rw [s4, HA.out.len]
    have hwt := wt_wrs S
    rw [hwl, s2] at hwt
    have hll : l.length ≤ 4000 := by have := rows_wrs S; rw [s2, hwl] at this; omega
    have hsm : ∀ (i : Nat) (x : Nd), l[i]? = some x → (∀ y ∈ x.by', y < 256) ∧ -9223372036854775808 ≤ x.sz ∧ x.sz ≤ 9223372036854775807 := fun i x hx => by
      have hm : x ∈ rows S := by rw [s2]; exact List.mem_iff_getElem?.2 ⟨i, hx⟩
      have h1 := rows_sz S x hm
      rw [s2] at h1
      exact ⟨fun y hy => HA.out.small y (by rw [← s4]; exact rows_mem S x hm y hy), by omega, by omega⟩
    have HSM := Lib.hid hsm
    have HS4 := Lib.hid s4
    have HE := Lib.hid fun (A' : Option Addr) (c' : Nat) (w' : World) (h : Arg w' A' l.length c' l) => encode_ok s1 s2 s3 (by omega) h
    have KR2 := KR
    rw [hr] at KR2
    clear hr KR s1 s2 s3 s4 hwt hsm
    rintro e w2 ⟨⟨v2, rfl, hown2⟩, b2⟩
    obtain ⟨A2, c2, rfl, hc2, hn2, n2⟩ := hown2.nodes
    have N2 := Lib.hid (And.intro hc2 (And.intro hn2 n2))
    have B2 := Lib.hid b2
    have B02 := Lib.hid (B1.out.trans (b2.mono B1.out.size))
    clear b2 hown2 hc2 hn2 n2
    go_wp2_with fail
    refine (KR2.out _ B02.out).mono ?_
    rintro e w3 ⟨⟨v3, rfl, hown3⟩, b3⟩
    obtain ⟨A3, c3, rfl, _, _, n3⟩ := hown3.nodes
    have N3 := Lib.hid n3
    have B3 := Lib.hid b3
    have B03 := Lib.hid (B02.out.trans (b3.mono B02.out.size))
    clear b3 KR2 hown3 n3
    go_wp2_with fail
    refine (fixed_walk _).mono ?_
    rintro e w4 ⟨rfl, b4⟩
    have B4 := Lib.hid b4
    have B04 := Lib.hid (B03.out.trans (b4.mono B03.out.size))
    have B24 := Lib.hid (B3.out.trans (b4.mono B3.out.size))
    clear b4
    go_wp2_with fail
    refine (same_walk l l.length c2 c3 A2 A3 (by omega) rfl w4 (N2.out.2.2.below B24.out) (N3.out.below B4.out)).mono ?_
    rintro e w5 ⟨rfl, b5⟩
    have B25 := Lib.hid (B24.out.trans (b5.mono B24.out.size))
    have cv1 := conv_arg AA1.out (B2.out.trans (B25.out.mono B2.out.size))
    have b05 := B04.out.trans (b5.mono B04.out.size)
    have cv2 := conv_arg HA.out b05
    have B05 := Lib.hid b05
    clear b5 b05
    have KE := Lib.hid (HE.out A2 c2 w5 ⟨rfl, N2.out.1, N2.out.2.1, N2.out.2.2.below B25.out, HSM.out⟩)
    go_wp2_with fail
    refine KE.out.mono ?_
    rw [HS4.out]
    rintro e w6 ⟨⟨v6, rfl, o6⟩, b6⟩
    obtain ⟨A6, c6, rfl, a6⟩ := arg_own o6 HA.out.small
    have cv6 := conv_arg a6 (Below.refl _ _)
    have b06 := B05.out.trans (b6.mono B05.out.size)
    have cv7 := conv_arg HA.out b06
    have B06 := Lib.hid b06
    clear cv1 cv2 o6 a6 b6 b06 KE
    go_wp2_with fail
    go_ret
    exact ⟨rfl, B06.out⟩
theorem decodes_walk (R : List Nat) (A : Option Addr) (n c : Nat) (hn : n ≤ maxLen) (w : World) (ha : ArgB w A n c R) :
    Calls Try.prog 4 #[.slice A n c] w fun e w' => e = .returned (.bool true) ∧ Below w.heap.size w w' := by
  by_cases h : 4000 < n
  · exact decodes_long A n c hn h w
  · exact decodes_core R A n c (by omega) w ha
end Go.Proofs.Ytfpeliolngfkpaa
