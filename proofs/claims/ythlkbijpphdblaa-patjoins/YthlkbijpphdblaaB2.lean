/- The reader: member. -/
import Derived.Test.YthlkbijpphdblaaB1
namespace Go.Proofs.Ythlkbijpphdblaa
open Go.RowKit
set_option linter.unusedVariables false

theorem size_d {P k o : Nat} {w : World} {vb : Value} {l : Bs} {s : List Rg} {v : Value} (h : Sl .i32 w v s) (hc : Cn s) (hn : s.length ≤ 1000000) : Calls Try.prog 12 #[v] w fun e w' => e = .returned (.int .i64 (sz s)) ∧ Below w.heap.size w w' := size_p v s w h hc hn
theorem of_range {x y : Int} (h0 : 0 ≤ x) (h1 : x ≤ y) (h2 : y ≤ 1114111) : ∀ s, OfS [(x, y)] s → s = [(x, y)] := fun s hs => ofs_of hs (Cn.one ⟨h0, h1, h2⟩) (fun z => by
  rw [Bool.eq_iff_iff]
  simp only [mem_cons, mem_nil, Bool.and_eq_true, Bool.or_eq_true, inR_iff, decide_eq_true_eq, Bool.false_eq_true, or_false]
  have : MX = 1114111 := rfl
  omega)
theorem bel_of {w w' : World} {m : Nat} (hw : w' = w.drewN m) : Below w.heap.size w w' := by subst hw; exact below_drewN m
theorem own_one {e : TypeId} {w : World} {base c : Nat} {a : Option Addr} {x : Int} (h : Own .i32 e w base (.slice a 1 c) [(x, x)]) : ∃ g, a = some ⟨g, 0, none⟩ ∧ g < w.heap.size ∧ w.cell? ⟨g, 0, none⟩ = some (.int .i32 x) := by
  obtain ⟨g, cap, cur, hv, _, hg, _⟩ := own_block h (by simp)
  simp only [Value.slice.injEq] at hv
  obtain ⟨rfl, _, rfl⟩ := hv
  exact ⟨g, rfl, lt_of hg, (own_cells h 0 (by simp)).1⟩
theorem dr_cell {w U : World} {g : Nat} {v : Value} (hg : g < w.heap.size) (hc : w.cell? ⟨g, 0, none⟩ = some v) (hU : Below w.heap.size w U) : U.cell? ⟨g, 0, none⟩ = some v := (hU.cell (p := ⟨g, 0, none⟩) hg).trans hc
set_option maxHeartbeats 8000000 in
theorem member_p {P k o : Nat} {w : World} {vb : Value} {l : Bs} (first : Bool) (h : In P w vb l k o) : Calls Try.prog 87 #[pp P, .bool first] w fun e w' => MvS P w vb l o (mbS l first k) e w' := by
  obtain ⟨X, hX⟩ : ∃ X, mbS l first k = X := ⟨_, rfl⟩
  rw [hX]
  unfold mbS at hX
  have hll := h.ll
  have hbt := h.br.bt
  have hPw := lt_of h.ps
  have HBT : Hid _ := hbt
  have q := peek_p h
  obtain ⟨⟨c0, c1, c2⟩, f0, f1, f2⟩ := cells3 h.ps
  cases hr : pkS l k with
  | bad p er =>
    rw [hr] at q hX
    have HQ : Hid _ := And.intro q hX
    clear q h hX hr hbt
    go_enter Try.func87, Try.ntmps87
    go_wp2_with fail
    refine Calls.mono HQ.out.1 ?_
    rintro e w1 ⟨rfl, m, hw⟩
    exact ⟨rfl, ms_bad HQ.out.2 (fro_of hw)⟩
  | ok r k' =>
    rw [hr] at q hX
    rw [R.bind_ok] at hX
    have HQ : Hid _ := And.intro q (And.intro hX h)
    clear q h hX hr hbt
    go_enter Try.func87, Try.ntmps87
    go_wp2_with fail
    refine Calls.mono HQ.out.1 ?_
    rintro e w1 ⟨rfl, m, hw⟩
    have hi1 := HQ.out.2.2.dr hw
    have hf1 : Fro (fun j => j = P) w w1 := fro_of hw
    have hX := HQ.out.2.1
    clear hw HQ c0 c1 c2 f0 f1 f2
    have qs := single_p first hi1
    cases hs : sgS l first k with
    | bad p er =>
      rw [hs] at qs hX
      have HQ : Hid _ := And.intro qs (And.intro hX hf1)
      clear qs hX hs hi1 hf1
      go_wp2_with fail
      refine Calls.mono HQ.out.1 ?_
      rintro e w2 ⟨rfl, hf2⟩
      exact ⟨rfl, ms_bad HQ.out.2.1 (HQ.out.2.2.trans hf2)⟩
    | ok s k1 =>
      have hso := sg_ok HBT.out hs
      rw [hs] at qs hX
      rw [R.bind_ok] at hX
      have HQ : Hid _ := And.intro qs (And.intro hX (And.intro hf1 hso))
      clear qs hX hs hi1 hf1 hso
      go_wp2_with fail
      refine Calls.mono HQ.out.1 ?_
      rintro e w2 ⟨a2, c2, rfl, o2, hi2, hf2⟩
      have hkl := hi2.kl
      have hlen : s.length ≤ 1000000 := by have := HQ.out.2.2.2.len; omega
      have hff := HQ.out.2.2.1.trans hf2
      have H2 : Hid _ := And.intro (o2.mono HQ.out.2.2.1.size) (And.intro hi2 (And.intro hff (And.intro HQ.out.2.1 HQ.out.2.2.2)))
      clear o2 hi2 hf2 hff HQ
      by_cases e45 : r = 45
      · subst e45
        have hX := H2.out.2.2.2.1
        rw [if_pos rfl] at hX
        have HX : Hid _ := hX
        clear hX
        go_wp2_with fail
        go_ret
        exact ms_ok HX.out rfl H2.out.1 H2.out.2.1 H2.out.2.2.1
      · have n45 : (r == 45) = false := by simpa using e45
        have hX := H2.out.2.2.2.1
        rw [if_neg e45] at hX
        have qz := size_p _ s w2 H2.out.1.sl H2.out.2.2.2.2.cn hlen
        by_cases hz : 1 < sz s
        · rw [if_pos hz] at hX
          have HX : Hid _ := And.intro hX qz
          clear hX qz
          go_wp2_with fail
          refine Calls.mono HX.out.2 ?_
          rintro e w3 ⟨rfl, hb3⟩
          have H3 : Hid _ := And.intro (H2.out.1.below hb3) (And.intro (H2.out.2.1.below hb3) (H2.out.2.2.1.trans (Fro.below hb3)))
          clear hb3
          go_wp2_with fail
          go_ret
          exact ms_ok HX.out.1 rfl H3.out.1 H3.out.2.1 H3.out.2.2
        · rw [if_neg hz] at hX
          obtain ⟨x, rfl, x0, x1⟩ := sz_one H2.out.2.2.2.2.cn H2.out.2.2.2.2.ne hz
          have HX : Hid _ := And.intro hX qz
          clear hX qz
          go_wp2_with fail
          refine Calls.mono HX.out.2 ?_
          rintro e w3 ⟨rfl, hb3⟩
          have H3 : Hid _ := And.intro (H2.out.1.below hb3) (And.intro (H2.out.2.1.below hb3) (H2.out.2.2.1.trans (Fro.below hb3)))
          clear hb3
          have qd := between_p H3.out.2.1
          have hX := HX.out.1
          clear HX
          cases hd1 : dbS l k1 with
          | bad p er =>
            rw [hd1] at qd hX
            have HD : Hid _ := And.intro qd hX
            clear qd hX hd1
            go_wp2_with fail
            refine Calls.mono HD.out.1 ?_
            rintro e w4 ⟨rfl, m4, hw⟩
            exact ⟨rfl, ms_bad HD.out.2 (H3.out.2.2.trans (fro_of hw))⟩
          | ok b k4 =>
            rw [hd1] at qd hX
            rw [R.bind_ok] at hX
            cases b with
            | false =>
              rw [if_neg (by decide)] at hX
              have HD : Hid _ := And.intro qd hX
              clear qd hX hd1
              go_wp2_with fail
              refine Calls.mono HD.out.1 ?_
              rintro e w4 ⟨rfl, m4, hw⟩
              have hi4 := H3.out.2.1.dr hw
              have hf4 := H3.out.2.2.trans (fro_of hw)
              have ho4 := H3.out.1.below (bel_of hw)
              have H4 : Hid _ := And.intro ho4 (And.intro hi4 hf4)
              clear hi4 hf4 ho4 hw
              go_wp2_with fail
              go_ret
              exact ms_ok HD.out.2 rfl H4.out.1 H4.out.2.1 H4.out.2.2
            | true =>
              rw [if_pos rfl] at hX
              have hdb : k1 < l.length := by
                unfold dbS at hd1
                cases hp : pkS l k1 with
                | bad p e => rw [hp] at hd1; cases hd1
                | ok r5 k5 => exact pk_lt hp
              have HD : Hid _ := And.intro qd hX
              clear qd hX hd1
              go_wp2_with fail
              refine Calls.mono HD.out.1 ?_
              rintro e w4 ⟨rfl, m4, hw⟩
              have hi4 := H3.out.2.1.dr hw
              have hf4 := H3.out.2.2.trans (fro_of hw)
              have ho4 := H3.out.1.below (bel_of hw)
              clear hw
              obtain ⟨⟨c0, c1, c2⟩, f0, f1, f2⟩ := cells3 hi4.ps
              have hs5 := set_at hi4 (k1 + 1) ((k1 : Int) + 1) (by omega) hdb
              have ho5 := own_fro ho4 hs5.2 hPw
              have hi5 := hs5.1
              have hf5 := hf4.trans hs5.2
              clear hi4 hf4 ho4 hs5
              go_upto_region 7 with fail
              obtain ⟨W, hW⟩ : ∃ W, w4.setCell ⟨P, 1, none⟩ (.int .i64 ((k1 : Int) + 1)) = W := ⟨_, rfl⟩
              rw [hW] at hi5 ho5 hf5 ⊢
              clear hW c0 c1 c2 f0 f1 f2
              obtain ⟨⟨c0, c1, c2⟩, f0, f1, f2⟩ := cells3 hi5.ps
              have hX := HD.out.2
              have qs := single_p false hi5
              cases hs : sgS l false (k1 + 1) with
              | bad p er =>
                rw [hs] at qs hX
                have H5 : Hid _ := And.intro qs (And.intro hX hf5)
                clear qs hX hs hi5 hf5 ho5
                go_wp2_with fail
                refine Calls.mono H5.out.1 ?_
                rintro e w6 ⟨rfl, hf6⟩
                exact ⟨rfl, ms_bad H5.out.2.1 (H5.out.2.2.trans hf6)⟩
              | ok t k6 =>
                have hso := sg_ok HBT.out hs
                rw [hs] at qs hX
                rw [R.bind_ok] at hX
                have H5 : Hid _ := And.intro qs (And.intro hX (And.intro hf5 (And.intro hso ho5)))
                clear qs hX hs hi5 hf5 hso ho5
                go_wp2_with fail
                refine Calls.mono H5.out.1 ?_
                rintro e w6 ⟨a6, c6, rfl, o6, hi6, hf6⟩
                have hkl6 := hi6.kl
                have hlen6 : t.length ≤ 1000000 := by have := H5.out.2.2.2.1.len; omega
                have ho6 := own_fro H5.out.2.2.2.2 hf6 hPw
                have hwW := H5.out.2.2.1.size
                have H6 : Hid _ := And.intro (o6.mono hwW) (And.intro hi6 (And.intro (H5.out.2.2.1.trans hf6) (And.intro H5.out.2.1 (And.intro H5.out.2.2.2.1 ho6))))
                clear o6 hi6 hf6 H5 ho6 hwW c0 c1 c2 f0 f1 f2
                have qz := size_p _ t w6 H6.out.1.sl H6.out.2.2.2.2.1.cn hlen6
                have hX := H6.out.2.2.2.1
                by_cases hz6 : 1 < sz t
                · rw [if_pos hz6] at hX
                  have H7 : Hid _ := And.intro qz (And.intro hX (fun U => fail_p P ((k1 + 1 : Nat) : Int) U))
                  clear qz hX
                  go_wp2_with fail
                  refine Calls.mono H7.out.1 ?_
                  rintro e w7 ⟨rfl, hb7⟩
                  have H8 : Hid _ := H6.out.2.2.1.trans (Fro.below hb7)
                  clear hb7
                  go_wp2_with fail
                  refine Calls.mono (H7.out.2.2 _) ?_
                  rintro e w8 ⟨rfl, hw⟩
                  subst hw
                  exact ⟨rfl, ms_bad H7.out.2.1 H8.out⟩
                · rw [if_neg hz6] at hX
                  obtain ⟨y, rfl, y0, y1⟩ := sz_one H6.out.2.2.2.2.1.cn H6.out.2.2.2.2.1.ne hz6
                  have H7 : Hid _ := And.intro qz hX
                  clear qz hX
                  go_wp2_with fail
                  refine Calls.mono H7.out.1 ?_
                  rintro e w7 ⟨rfl, hb7⟩
                  have hX : (if y < x then R.bad (k : Int) 2 else R.ok [(x, y)] k6) = X := H7.out.2
                  have hof := H6.out.2.2.2.2.2.below hb7
                  have hot := H6.out.1.below hb7
                  obtain ⟨g2, rfl, hg2, cx⟩ := own_one hof
                  obtain ⟨g6, rfl, hg6, cy⟩ := own_one hot
                  have H8 : Hid _ := And.intro (H6.out.2.2.1.trans (Fro.below hb7)) (And.intro (H6.out.2.1.below hb7) hX)
                  have HS : Hid (∀ U, Below w7.heap.size w7 U → U.cell? ⟨g2, 0, none⟩ = some (.int .i32 x) ∧ U.cell? ⟨g6, 0, none⟩ = some (.int .i32 y)) := fun U hU => ⟨dr_cell hg2 cx hU, dr_cell hg6 cy hU⟩
                  clear hX hof hot hb7 H7 H6 cx cy
                  go_upto_region 11 with fail
                  have HB : Hid (Below w7.heap.size w7 w7.drew) := bdrewN (Below.refl _ _) 1
                  have HA : Hid (∀ o, Below w7.heap.size w7 (w7.alloc o).drew) := fun o => bdrewN ((Below.refl _ _).alloc (Nat.le_refl _) o) 1
                  go_region_held_law (fun U => U.cell? ⟨g2, 0, none⟩ = some (.int .i32 x) ∧ U.cell? ⟨g6, 0, none⟩ = some (.int .i32 y)) (first | with_reducible exact HS.out _ HB.out | with_reducible exact HS.out _ (HA.out _) | fail)
                    (fail)
                  have hx9 : (w7.alloc (.cells #[.int .i32 x, .int .i32 y] 64)).drew.heap[w7.heap.size]? = some (.cells #[.int .i32 x, .int .i32 y] 64 (0, 0)) := nw_heap w7 _
                  have hb9 := HA.out (.cells #[.int .i32 x, .int .i32 y] 64)
                  obtain ⟨U, hU⟩ : ∃ U, (w7.alloc (.cells #[.int .i32 x, .int .i32 y] 64)).drew = U := ⟨_, rfl⟩
                  rw [hU] at hx9 hb9 ⊢
                  obtain ⟨⟨d0, d1⟩, g0, g1⟩ := blk2 hx9
                  have hX := H8.out.2.2
                  have hf9 := H8.out.1.trans (Fro.below hb9)
                  have hi9 := H8.out.2.1.below hb9
                  clear hU hx9 hb9 HA HB HS H8
                  by_cases hyx : y < x
                  · rw [if_pos hyx] at hX
                    have H9 : Hid _ := And.intro hX (And.intro hf9 (fun V => fail_p P (k : Int) V))
                    clear hX hf9 hi9
                    go_wp2_with fail
                    refine Calls.mono (H9.out.2.2 _) ?_
                    rintro e w10 ⟨rfl, hw⟩
                    subst hw
                    exact ⟨rfl, ms_bad H9.out.1 H9.out.2.1⟩
                  · rw [if_neg hyx] at hX
                    have hb10 : Below U.heap.size U (U.alloc (.cells #[.int .i32 x, .int .i32 y] 64)) := (Below.refl _ _).alloc (Nat.le_refl _) _
                    have hsl : Sl .i32 (U.alloc (.cells #[.int .i32 x, .int .i32 y] 64)) (.slice (some ⟨U.heap.size, 0, none⟩) 1 1) [(x, y)] := sl_lit (l := [(x, y)]) (nw_heap _ _) rfl
                    have q1 := of_p _ _ _ hsl (by simp)
                    have H9 : Hid _ := And.intro hX (And.intro (hf9.trans (Fro.below hb10)) (And.intro (hi9.below hb10) q1))
                    clear hX hf9 hi9 hb10 hsl q1
                    go_wp2_with fail
                    refine Calls.mono H9.out.2.2.2 ?_
                    rintro e w10 ⟨v10, s10, rfl, hof, o10, hl10, hb10⟩
                    have hs10 := of_range x0 (by omega) y1 _ hof
                    subst hs10
                    have H10 : Hid _ := And.intro (o10.mono H9.out.2.1.size) (And.intro (H9.out.2.2.1.below hb10) (H9.out.2.1.trans (Fro.below hb10)))
                    clear hof o10 hl10 hb10
                    go_wp2_with fail
                    go_ret
                    exact ms_ok H9.out.1 rfl H10.out.1 H10.out.2.1 H10.out.2.2
end Go.Proofs.Ythlkbijpphdblaa
