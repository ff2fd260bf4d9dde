/- SetOrders: the walk. -/
import Derived.Test.YteddjjabbehfdaaP9
namespace Go.Proofs.Yteddjjabbehfdaa
open Go.RowKit
set_option linter.unusedVariables false

theorem Sl.takeS {k : IntKind} {w : World} {a : Option Addr} {n c : Nat} {l : List Rg} (h : Sl k w (.slice a n c) l) {j : Nat} (hj : j ≤ n) : Sl k w (.slice a j c) (l.take j) := by
  obtain ⟨a', c', e, hc, h⟩ := h
  simp only [Value.slice.injEq] at e
  obtain ⟨rfl, rfl, rfl⟩ := e
  have hl : (l.take j).length = j := by rw [List.length_take]; omega
  refine ⟨_, _, by rw [hl], by omega, ?_⟩
  by_cases h0 : l.take j = []
  · exact .inl h0
  rcases h with h | ⟨g, off, rfl, hg, h⟩
  · exact absurd (by rw [h]; simp) h0
  · refine .inr ⟨g, off, rfl, hg, fun i hi => ?_⟩
    have := h i (by omega)
    rw [List.getElem_take]
    exact this
theorem Sl.dropS {k : IntKind} {w : World} {g off n c : Nat} {l : List Rg} (h : Sl k w (.slice (some ⟨g, off, none⟩) n c) l) {j : Nat} (hj : j ≤ n) : Sl k w (.slice (some ⟨g, off + j * 2, none⟩) (n - j) (c - j)) (l.drop j) := by
  obtain ⟨a', c', e, hc, h⟩ := h
  simp only [Value.slice.injEq] at e
  obtain ⟨rfl, rfl, rfl⟩ := e
  refine ⟨_, _, by rw [List.length_drop], by rw [List.length_drop]; omega, ?_⟩
  rcases h with h | ⟨g', off', e', hg, h⟩
  · exact .inl (by rw [h]; simp)
  · simp only [Option.some.injEq, Addr.mk.injEq, and_true] at e'
    obtain ⟨rfl, rfl⟩ := e'
    refine .inr ⟨g, off + j * 2, rfl, hg, fun i hi => ?_⟩
    have := h (j + i) (by rw [List.length_drop] at hi; omega)
    rw [List.getElem_drop, show off + j * 2 + i * 2 = off + (j + i) * 2 by omega]
    exact this
theorem Sl.none {k : IntKind} {w : World} {a : Option Addr} {c : Nat} : Sl k w (.slice a 0 c) [] := ⟨_, _, rfl, Nat.zero_le _, .inl rfl⟩
theorem ofs_step {l s t u : List Rg} {r : Rg} (hs : OfS l s) (ht : OfS [r] t) (hu : OfS (s ++ t) u) : OfS (l ++ [r]) u := ⟨hu.cn, fun x => by
  rw [hu.mem, mem_app, hs.mem, ht.mem, mem_app]
  cases decide (0 ≤ x ∧ x ≤ MX) <;> simp⟩
theorem ofs_cut {l s t u : List Rg} {k : Nat} (hs : OfS (l.take k) s) (ht : OfS (l.drop k) t) (hu : OfS (s ++ t) u) : OfS l u := ⟨hu.cn, fun x => by
  have e : memB l x = (memB (l.take k) x || memB (l.drop k) x) := by rw [← mem_app, List.take_append_drop]
  rw [hu.mem, mem_app, hs.mem, ht.mem, e]
  cases decide (0 ≤ x ∧ x ≤ MX) <;> simp⟩
theorem ofs_rev {l s : List Rg} (h : OfS l.reverse s) : OfS l s := ⟨h.cn, fun x => by rw [h.mem, mem_perm (List.reverse_perm l)]⟩
theorem ofs_uniq {l s t : List Rg} (h : OfS l s) (k : OfS l t) : s = t := h.eq k (fun _ _ _ => rfl)
theorem same_t (va vb : Value) (S : List Rg) (w : World) (ha : Sl .i32 w va S) (hb : Sl .i32 w vb S) (hn : S.length ≤ 1000000) : Calls Try.prog 28 #[va, vb] w fun e w' => e = .returned (.bool true) ∧ Below w.heap.size w w' := by
  have := same_p va vb S S w ha hb hn hn
  rw [decide_eq_true rfl] at this
  exact this
set_option maxRecDepth 8000 in
set_option maxHeartbeats 4000000 in
theorem orders_s (la : Option Addr) (lc : Nat) (l : List Rg) (cut : Int) (w : World) (hl : Sl .i32 w (.slice la l.length lc) l) : Calls Try.prog 6 #[.slice la l.length lc, .int .i64 cut] w fun e w' => e = .returned (.bool true) ∧ Below w.heap.size w w' := by
  obtain ⟨i50, z50, hi50, hz0, hzc, hz1, hz3⟩ := info_rgp
  have HK : Hid _ := And.intro (fun W : World => known_p W) hl
  have hcl : l.length ≤ lc := by
    obtain ⟨a', c', e, hc, _⟩ := hl
    simp only [Value.slice.injEq] at e
    obtain ⟨_, _, rfl⟩ := e
    exact hc
  clear hl
  by_cases h0 : 100 < l.length
  · have d : decide ((100 : Int) < (l.length : Int)) = true := by simp; omega
    go_enter Try.func6, Try.ntmps6
    go_wp2_with fail
    refine Calls.mono (HK.out.1 _) ?_
    rintro e w1 ⟨rfl, hb1⟩
    go_wp2_with fail
    go_ret
    exact ⟨rfl, hb1⟩
  have d0 : decide ((100 : Int) < (l.length : Int)) = false := by simp; omega
  by_cases h1 : cut < 0
  · have d : decide (cut < 0) = true := by simpa using h1
    go_enter Try.func6, Try.ntmps6
    go_wp2_with fail
    refine Calls.mono (HK.out.1 _) ?_
    rintro e w1 ⟨rfl, hb1⟩
    go_wp2_with fail
    go_ret
    exact ⟨rfl, hb1⟩
  have d1 : decide (cut < 0) = false := by simpa using h1
  by_cases h2 : (l.length : Int) < cut
  · have d : decide ((l.length : Int) < cut) = true := by simpa using h2
    go_enter Try.func6, Try.ntmps6
    go_wp2_with fail
    refine Calls.mono (HK.out.1 _) ?_
    rintro e w1 ⟨rfl, hb1⟩
    go_wp2_with fail
    go_ret
    exact ⟨rfl, hb1⟩
  have d2 : decide ((l.length : Int) < cut) = false := by simpa using h2
  obtain ⟨c, rfl⟩ : ∃ c : Nat, cut = (c : Int) := ⟨cut.toNat, by omega⟩
  have hcl2 : c ≤ l.length := by omega
  have hn : l.length ≤ 100 := by omega
  go_enter Try.func6, Try.ntmps6
  go_wp2_with fail
  refine Calls.mono (HK.out.1 _) ?_
  rintro e w1 ⟨rfl, hb1⟩
  have HB1 : Hid (Below w.heap.size w w1) := hb1
  clear hb1
  go_wp2_with fail
  refine Calls.mono (of_p _ l w1 (HK.out.2.below HB1.out) (by omega)) ?_
  rintro e w2 ⟨vx, S, rfl, hS, oS, lS, hb2⟩
  obtain ⟨xa, xc, rfl⟩ := own_form oS
  have HS : Hid _ := And.intro hS (And.intro oS (HB1.out.trans (hb2.mono HB1.out.size)))
  clear hS oS hb2
  obtain ⟨SL, hSL⟩ : ∃ SL, S.length = SL := ⟨_, rfl⟩
  have HSL : Hid _ := hSL
  rw [hSL] at lS HS ⊢
  clear hSL
  go_wp2_with fail
  go_loopg [6, 7] l.length (fun g v6 v7 wr => ∃ k : Nat, k = g ∧ k ≤ l.length ∧ v7 = .int .i64 ((k : Int) - 1) ∧ Own .i32 50 wr w2.heap.size v6 (l.drop k).reverse ∧ Below w2.heap.size w2 wr)
  case atStart => exact ⟨l.length, rfl, Nat.le_refl _, rfl, by rw [List.drop_length]; exact Own.nil _ _ _ _, Below.refl _ _⟩
  case round =>
    obtain ⟨k, rfl, hkl, rfl, hown, hb⟩ := hrel
    obtain ⟨va, vc, rfl⟩ := row_form hown
    have HB : Hid _ := And.intro hown hb
    clear hown hb
    cases k with
    | succ k =>
      have hlt : k < l.length := by omega
      have hk1 : (((k + 1 : Nat) : Int) - 1) = (k : Int) := by omega
      rw [hk1]
      have hsl := (HK.out.2.below HS.out.2.2).below HB.out.2
      obtain ⟨a', c', e, _, hx⟩ := hsl
      simp only [Value.slice.injEq] at e
      obtain ⟨rfl, hdd, rfl⟩ := e
      clear hdd
      rcases hx with hx | ⟨b, off, rfl, hbl, hx⟩
      · rw [hx] at hlt; simp at hlt
      obtain ⟨e0, e1⟩ := hx k hlt
      have hrv : (l.drop k).reverse = (l.drop (k + 1)).reverse ++ [l[k]] := by rw [List.drop_eq_getElem_cons hlt, List.reverse_cons]
      have hrl : ((l.drop (k + 1)).reverse).length ≤ 1000000 := by rw [List.length_reverse, List.length_drop]; omega
      generalize l[k] = r at *
      obtain ⟨r0, r1⟩ := r
      dsimp only at *
      have HR : Hid _ := hrv
      clear hrv hx
      obtain ⟨BK, hBK⟩ : ∃ BK, (l.drop (k + 1)).reverse = BK := ⟨_, rfl⟩
      rw [hBK] at HB HR hrl ⊢
      clear hBK
      have hkp : (0 : Int) ≤ (k : Int) := by omega
      go_wp2_with (first | (at_builtin; go_loud (refine wpList_put wr .i32 50 22 i50 z50 8 Try.underlying22 hi50 hz0 hzc hz1 hz3 (by decide) (.tmp 34) (.tmp 39) rfl rfl w2.heap.size (.slice va BK.length vc) BK rfl HB.out.1 (r0, r1) rfl hrl HB.out.2.size ?_); intro v' w7 hown7 hb7 hv7; have H7 : Hid _ := And.intro hown7 hb7; clear hown7 hb7 hv7))
      go_roundg k
      case measure => omega
      case rel =>
        refine ⟨k, rfl, by omega, by simp, ?_, HB.out.2.trans H7.out.2.1⟩
        rw [HR.out]
        exact H7.out.1
    | zero =>
      rw [List.drop_zero] at HB ⊢
      have hrl : l.reverse.length = l.length := List.length_reverse
      rw [hrl]
      have q1 := fun W : World => of_p (.slice none 0 0) [] W Sl.none (by simp)
      have HQ : Hid _ := And.intro q1 hrl
      clear q1 hrl
      go_wp2_with fail
      refine Calls.mono (HQ.out.1 _) ?_
      rintro e w4 ⟨v4, s4, rfl, h4, o4, l4, hb4⟩
      obtain ⟨ya, yc, rfl⟩ := own_form o4
      have hb24 := HB.out.2.trans (hb4.mono HB.out.2.size)
      have H4 : Hid _ := And.intro h4 (And.intro (o4.mono HB.out.2.size) (And.intro hb24 (And.intro (HB.out.1.below hb4) l4)))
      clear h4 o4 hb4 hb24 HB
      go_wp2_with fail
      go_loopg [8, 9] l.length (fun g v8 v9 wr => ∃ (k : Nat) (s : List Rg) (oa : Option Addr) (oc : Nat), k + g = l.length ∧ v9 = .int .i64 (k : Int) ∧ v8 = .slice oa s.length oc ∧ s.length ≤ k ∧ OfS (l.take k) s ∧ Own .i32 50 wr w2.heap.size v8 s ∧ Below w4.heap.size w4 wr)
      case atStart => exact ⟨0, s4, ya, yc, by omega, rfl, rfl, H4.out.2.2.2.2, H4.out.1, H4.out.2.1, Below.refl _ _⟩
      case round =>
        obtain ⟨k, s, oa, oc, hk, rfl, rfl, hsk, hof, hown, hb⟩ := hrel
        have HB : Hid _ := And.intro hof (And.intro hown hb)
        clear hof hown hb
        by_cases hlt : k < l.length
        · obtain ⟨g, rfl⟩ : ∃ g, gk = g + 1 := ⟨gk - 1, by omega⟩
          have hsl := ((HK.out.2.below HS.out.2.2).below H4.out.2.2.1).below HB.out.2.2
          obtain ⟨a', c', e, _, hx⟩ := hsl
          simp only [Value.slice.injEq] at e
          obtain ⟨rfl, hdd, rfl⟩ := e
          clear hdd
          rcases hx with hx | ⟨b, off, rfl, hbl, hx⟩
          · rw [hx] at hlt; simp at hlt
          obtain ⟨e0, e1⟩ := hx k hlt
          have htk := take_snoc hlt
          generalize l[k] = r at *
          obtain ⟨r0, r1⟩ := r
          dsimp only at *
          have hba : Below wr.heap.size wr (wr.alloc (.cells #[.int .i32 r0, .int .i32 r1] 50)) := (Below.refl _ _).alloc (Nat.le_refl _) _
          have hsr : Sl .i32 (wr.alloc (.cells #[.int .i32 r0, .int .i32 r1] 50)) (.slice (some ⟨wr.heap.size, 0, none⟩) 1 1) [(r0, r1)] := sl_lit (l := [(r0, r1)]) (nw_heap _ _) rfl
          have q1 := of_p _ _ _ hsr (by simp)
          have HQ2 : Hid _ := And.intro q1 (And.intro hba htk)
          clear q1 hba hsr htk hx
          go_wp2_with fail
          refine Calls.mono HQ2.out.1 ?_
          rintro e w5 ⟨v5, s5, rfl, h5, o5, l5, hb5⟩
          obtain ⟨za, zc, rfl⟩ := own_form o5
          have hbb := HQ2.out.2.1.trans (hb5.mono HQ2.out.2.1.size)
          have l5' : s5.length ≤ 1 := by simpa using l5
          have H5 : Hid _ := And.intro h5 (And.intro o5 (And.intro (HB.out.2.1.below hbb) (HB.out.2.2.trans (hbb.mono HB.out.2.2.size))))
          have q2 := union_p _ _ s s5 w5 (HB.out.2.1.below hbb).sl o5.sl (by omega)
          have HQ3 : Hid _ := q2
          obtain ⟨L5, hL5⟩ : ∃ L5, s5.length = L5 := ⟨_, rfl⟩
          rw [hL5] at HQ3 l5' ⊢
          have HL5 : Hid _ := hL5
          clear h5 o5 l5 hb5 hbb q2 hL5
          go_wp2_with fail
          refine Calls.mono HQ3.out ?_
          rintro e w6 ⟨v6, s6, rfl, h6, o6, l6, hb6⟩
          obtain ⟨ua, uc, rfl⟩ := own_form o6
          have hst := ofs_step HB.out.1 H5.out.1 h6
          rw [← HQ2.out.2.2] at hst
          have l6' : s6.length ≤ k + 1 := by have := HL5.out; omega
          have hsz := H5.out.2.2.2.size
          have hsz2 := H4.out.2.2.1.size
          have H6 : Hid _ := And.intro hst (And.intro (o6.mono (base' := w2.heap.size) (by omega)) (H5.out.2.2.2.trans (hb6.mono hsz)))
          clear h6 o6 hb6 hst l6 hsz hsz2
          go_wp2_with fail
          go_roundg g
          case measure => omega
          case rel => exact ⟨k + 1, s6, ua, uc, by omega, by simp, rfl, l6', H6.out.1, H6.out.2.1, H6.out.2.2⟩
        · have hkl : k = l.length := by omega
          subst hkl
          rw [List.take_length] at HB
          have hse := (ofs_uniq HB.out.1 HS.out.1).symm
          subst hse
          have hbw : Below w2.heap.size w2 wr := H4.out.2.2.1.trans (HB.out.2.2.mono H4.out.2.2.1.size)
          have fA : ∀ W : World, Below wr.heap.size wr W → Sl .i32 W (.slice xa SL xc) S := fun W hb => (HS.out.2.1.sl.below hbw).below hb
          have fO : ∀ W : World, Below wr.heap.size wr W → Sl .i32 W (.slice oa SL oc) S := fun W hb => by
            have h := HB.out.2.1.sl.below hb
            rw [HSL.out] at h
            exact h
          have fB : ∀ W : World, Below wr.heap.size wr W → Sl .i32 W (.slice va l.length vc) l.reverse := fun W hb => by
            have h := (H4.out.2.2.2.1.sl.below HB.out.2.2).below hb
            rw [List.length_reverse] at h
            exact h
          have fL : ∀ W : World, Below wr.heap.size wr W → Sl .i32 W (.slice la l.length lc) l := fun W hb => ((HK.out.2.below HS.out.2.2).below hbw).below hb
          have hSn : S.length ≤ 1000000 := by have := HSL.out; omega
          have hww : Below w.heap.size w wr := HS.out.2.2.trans (hbw.mono HS.out.2.2.size)
          rw [HSL.out]
          have HF : Hid _ := And.intro fA (And.intro fO (And.intro fB (And.intro fL (And.intro hSn (And.intro hww HS.out.1)))))
          have HC : Hid (Below wr.heap.size wr wr.drew) := bdrewN (Below.refl _ _) 1
          have hss : S.length ≤ 100 := by have := HSL.out; omega
          have HSS : Hid _ := hss
          clear hss
          have hrl2 : l.reverse.length ≤ 100000 := by rw [List.length_reverse]; omega
          have htl : (l.take c).length ≤ 100 := by rw [List.length_take]; omega
          have hdl : (l.drop c).length ≤ 100 := by rw [List.length_drop]; omega
          have HLL : Hid _ := And.intro hrl2 (And.intro htl hdl)
          clear fA fO fB fL hSn hww hbw hrl2 htl hdl HB H4 HQ HS HSL hsk hk hlt
          go_upto_region 16 with fail
          by_cases hl0 : l = []
          · have hc0 : c = 0 := by rw [hl0] at hcl2; simpa using hcl2
            subst hc0
            have e1 : ∀ W : World, ∀ a n c', n = 0 → Sl .i32 W (.slice a n c') (l.take 0) := fun W a n c' hn0 => by subst hn0; exact Sl.none
            have e2 : ∀ W : World, ∀ a n c', n = 0 → Sl .i32 W (.slice a n c') (l.drop 0) := fun W a n c' hn0 => by subst hn0; rw [List.drop_zero, hl0]; exact Sl.none
            have HE : Hid _ := And.intro e1 e2
            have HLN : Hid _ := (by rw [hl0]; rfl : l.length = 0)
            clear e1 e2 hl0 hcl2 h2 d2
            cases la with
            | none =>
              go_region_held3 (fun _ => True) (first | exact trivial | fail)
                (first
                  | (go_at_call 9; have hq := of_p (.slice va l.length vc) l.reverse _ (HF.out.2.2.1 _ HC.out) HLL.out.1; (with_reducible refine Calls.mono hq ?_); clear hq; rintro e w9 ⟨v9, s9, rfl, h9, o9, l9, hb9⟩; obtain ⟨a9, c9, rfl⟩ := own_form o9; have hs9 := (ofs_uniq (ofs_rev h9) HF.out.2.2.2.2.2.2).symm; subst hs9; have hc9 := HC.out.trans (hb9.mono HC.out.size); clear HC; have HC : Hid (Below wr.heap.size wr w9) := hc9; have HR1 : Hid (Sl .i32 w9 (.slice a9 S.length c9) S) := o9.sl; clear h9 o9 l9 hb9 hc9)
                  | (go_at_call 9; have hq := of_p (.slice xa SL xc) S _ (HF.out.1 _ HC.out) (by have := HSS.out; omega); (with_reducible refine Calls.mono hq ?_); clear hq; rintro e w10 ⟨v10, s10, rfl, h10, o10, l10, hb10⟩; obtain ⟨a10, c10, rfl⟩ := own_form o10; have hs10 := (ofs_uniq h10 (OfS.self HF.out.2.2.2.2.2.2.cn)).symm; subst hs10; have hc10 := HC.out.trans (hb10.mono HC.out.size); clear HC; have HC : Hid (Below wr.heap.size wr w10) := hc10; have HR5 : Hid (Sl .i32 w10 (.slice a10 S.length c10) S) := o10.sl; clear h10 o10 l10 hb10 hc10)
                  | (go_at_call 28; have hq := same_t _ _ S _ (HF.out.1 _ HC.out) HR1.out HF.out.2.2.2.2.1; (with_reducible refine Calls.mono hq ?_); clear hq; rintro e w8 ⟨rfl, hb8⟩; have hc8 := HC.out.trans (hb8.mono HC.out.size); clear HC HR1; have HC : Hid (Below wr.heap.size wr w8) := hc8; clear hb8 hc8)
                  | (go_at_call 28; have hq := same_t _ _ S _ (HF.out.1 _ HC.out) (HF.out.2.1 _ HC.out) HF.out.2.2.2.2.1; (with_reducible refine Calls.mono hq ?_); clear hq; rintro e w7 ⟨rfl, hb7⟩; have hc7 := HC.out.trans (hb7.mono HC.out.size); clear HC; have HC : Hid (Below wr.heap.size wr w7) := hc7; clear hb7 hc7)
                  | (go_at_call 9; (with_reducible refine Calls.mono (of_p (.slice _ _ _) (l.drop 0) _ (HE.out.2 _ _ _ _ (by have := HLN.out; omega)) (by have := HLL.out.2; omega)) ?_); rintro e w5 ⟨v5, s5, rfl, h5, o5, l5, hb5⟩; obtain ⟨a5, c5, rfl⟩ := own_form o5; have hc5 := HC.out.trans (hb5.mono HC.out.size); clear HC; have HC : Hid (Below wr.heap.size wr w5) := hc5; have HR3 : Hid (OfS (l.drop 0) s5 ∧ Sl .i32 w5 (.slice a5 s5.length c5) s5 ∧ s5.length ≤ (l.drop 0).length ∧ Sl .i32 w5 (.slice a6 s6.length c6) s6) := ⟨h5, o5.sl, l5, row_sl (row_below HR2.out.2.1 hb5)⟩; clear h5 o5 l5 hb5 hc5)
                  | (go_at_call 9; (with_reducible refine Calls.mono (of_p (.slice _ _ _) (l.take 0) _ (HE.out.1 _ _ _ _ (by have := HLN.out; omega)) (by have := HLL.out.2; omega)) ?_); rintro e w6 ⟨v6, s6, rfl, h6, o6, l6, hb6⟩; obtain ⟨a6, c6, rfl⟩ := own_form o6; have hc6 := HC.out.trans (hb6.mono HC.out.size); clear HC; have HC : Hid (Below wr.heap.size wr w6) := hc6; have HR2 : Hid (OfS (l.take 0) s6 ∧ Own .i32 50 w6 0 (.slice a6 s6.length c6) s6 ∧ s6.length ≤ (l.take 0).length) := ⟨h6, o6.mono (Nat.zero_le _), l6⟩; clear h6 o6 l6 hb6 hc6)
                  | (go_at_call 22; have hq := union_p _ _ s6 s5 _ HR3.out.2.2.2 HR3.out.2.1 (by have := HLL.out; have := HR2.out.2.2; have := HR3.out.2.2.1; omega); (with_reducible refine Calls.mono hq ?_); clear hq; rintro e w4' ⟨v4', s4', rfl, h4', o4', l4', hb4'⟩; obtain ⟨a4', c4', rfl⟩ := own_form o4'; have hs4 := (ofs_uniq (ofs_cut HR2.out.1 HR3.out.1 h4') HF.out.2.2.2.2.2.2).symm; subst hs4; have hc4 := HC.out.trans (hb4'.mono HC.out.size); clear HC; have HC : Hid (Below wr.heap.size wr w4') := hc4; have HR4 : Hid (Sl .i32 w4' (.slice a4' S.length c4') S) := o4'.sl; clear h4' o4' l4' hb4' hc4)
                  | (go_at_call 28; have hq := same_t _ _ S _ (HF.out.1 _ HC.out) HR4.out HF.out.2.2.2.2.1; (with_reducible refine Calls.mono hq ?_); clear hq; rintro e w3 ⟨rfl, hb3⟩; have hc3 := HC.out.trans (hb3.mono HC.out.size); clear HC HR4; have HC : Hid (Below wr.heap.size wr w3) := hc3; clear hb3 hc3)
                  | (go_at_call 28; have hq := same_t _ _ S _ HR5.out (HF.out.1 _ HC.out) HF.out.2.2.2.2.1; (with_reducible refine Calls.mono hq ?_); clear hq; rintro e w11 ⟨rfl, hb11⟩; have hc11 := HC.out.trans (hb11.mono HC.out.size); clear HC HR5; have HC : Hid (Below wr.heap.size wr w11) := hc11; clear hb11 hc11)
                  | fail)
              all_goals
                go_wp2_with fail
                go_ret
                exact ⟨rfl, HF.out.2.2.2.2.2.1.trans (HC.out.mono HF.out.2.2.2.2.2.1.size)⟩
            | some ad =>
              obtain ⟨ab, ao, as_⟩ := ad
              by_cases hlc0 : lc = 0
              · subst hlc0
                go_region_held3 (fun _ => True) (first | exact trivial | fail)
                  (first
                    | (go_at_call 9; have hq := of_p (.slice va l.length vc) l.reverse _ (HF.out.2.2.1 _ HC.out) HLL.out.1; (with_reducible refine Calls.mono hq ?_); clear hq; rintro e w9 ⟨v9, s9, rfl, h9, o9, l9, hb9⟩; obtain ⟨a9, c9, rfl⟩ := own_form o9; have hs9 := (ofs_uniq (ofs_rev h9) HF.out.2.2.2.2.2.2).symm; subst hs9; have hc9 := HC.out.trans (hb9.mono HC.out.size); clear HC; have HC : Hid (Below wr.heap.size wr w9) := hc9; have HR1 : Hid (Sl .i32 w9 (.slice a9 S.length c9) S) := o9.sl; clear h9 o9 l9 hb9 hc9)
                    | (go_at_call 9; have hq := of_p (.slice xa SL xc) S _ (HF.out.1 _ HC.out) (by have := HSS.out; omega); (with_reducible refine Calls.mono hq ?_); clear hq; rintro e w10 ⟨v10, s10, rfl, h10, o10, l10, hb10⟩; obtain ⟨a10, c10, rfl⟩ := own_form o10; have hs10 := (ofs_uniq h10 (OfS.self HF.out.2.2.2.2.2.2.cn)).symm; subst hs10; have hc10 := HC.out.trans (hb10.mono HC.out.size); clear HC; have HC : Hid (Below wr.heap.size wr w10) := hc10; have HR5 : Hid (Sl .i32 w10 (.slice a10 S.length c10) S) := o10.sl; clear h10 o10 l10 hb10 hc10)
                    | (go_at_call 28; have hq := same_t _ _ S _ (HF.out.1 _ HC.out) HR1.out HF.out.2.2.2.2.1; (with_reducible refine Calls.mono hq ?_); clear hq; rintro e w8 ⟨rfl, hb8⟩; have hc8 := HC.out.trans (hb8.mono HC.out.size); clear HC HR1; have HC : Hid (Below wr.heap.size wr w8) := hc8; clear hb8 hc8)
                    | (go_at_call 28; have hq := same_t _ _ S _ (HF.out.1 _ HC.out) (HF.out.2.1 _ HC.out) HF.out.2.2.2.2.1; (with_reducible refine Calls.mono hq ?_); clear hq; rintro e w7 ⟨rfl, hb7⟩; have hc7 := HC.out.trans (hb7.mono HC.out.size); clear HC; have HC : Hid (Below wr.heap.size wr w7) := hc7; clear hb7 hc7)
                    | (go_at_call 9; (with_reducible refine Calls.mono (of_p (.slice _ _ _) (l.drop 0) _ (HE.out.2 _ _ _ _ (by have := HLN.out; omega)) (by have := HLL.out.2; omega)) ?_); rintro e w5 ⟨v5, s5, rfl, h5, o5, l5, hb5⟩; obtain ⟨a5, c5, rfl⟩ := own_form o5; have hc5 := HC.out.trans (hb5.mono HC.out.size); clear HC; have HC : Hid (Below wr.heap.size wr w5) := hc5; have HR3 : Hid (OfS (l.drop 0) s5 ∧ Sl .i32 w5 (.slice a5 s5.length c5) s5 ∧ s5.length ≤ (l.drop 0).length ∧ Sl .i32 w5 (.slice a6 s6.length c6) s6) := ⟨h5, o5.sl, l5, row_sl (row_below HR2.out.2.1 hb5)⟩; clear h5 o5 l5 hb5 hc5)
                    | (go_at_call 9; (with_reducible refine Calls.mono (of_p (.slice _ _ _) (l.take 0) _ (HE.out.1 _ _ _ _ (by have := HLN.out; omega)) (by have := HLL.out.2; omega)) ?_); rintro e w6 ⟨v6, s6, rfl, h6, o6, l6, hb6⟩; obtain ⟨a6, c6, rfl⟩ := own_form o6; have hc6 := HC.out.trans (hb6.mono HC.out.size); clear HC; have HC : Hid (Below wr.heap.size wr w6) := hc6; have HR2 : Hid (OfS (l.take 0) s6 ∧ Own .i32 50 w6 0 (.slice a6 s6.length c6) s6 ∧ s6.length ≤ (l.take 0).length) := ⟨h6, o6.mono (Nat.zero_le _), l6⟩; clear h6 o6 l6 hb6 hc6)
                    | (go_at_call 22; have hq := union_p _ _ s6 s5 _ HR3.out.2.2.2 HR3.out.2.1 (by have := HLL.out; have := HR2.out.2.2; have := HR3.out.2.2.1; omega); (with_reducible refine Calls.mono hq ?_); clear hq; rintro e w4' ⟨v4', s4', rfl, h4', o4', l4', hb4'⟩; obtain ⟨a4', c4', rfl⟩ := own_form o4'; have hs4 := (ofs_uniq (ofs_cut HR2.out.1 HR3.out.1 h4') HF.out.2.2.2.2.2.2).symm; subst hs4; have hc4 := HC.out.trans (hb4'.mono HC.out.size); clear HC; have HC : Hid (Below wr.heap.size wr w4') := hc4; have HR4 : Hid (Sl .i32 w4' (.slice a4' S.length c4') S) := o4'.sl; clear h4' o4' l4' hb4' hc4)
                    | (go_at_call 28; have hq := same_t _ _ S _ (HF.out.1 _ HC.out) HR4.out HF.out.2.2.2.2.1; (with_reducible refine Calls.mono hq ?_); clear hq; rintro e w3 ⟨rfl, hb3⟩; have hc3 := HC.out.trans (hb3.mono HC.out.size); clear HC HR4; have HC : Hid (Below wr.heap.size wr w3) := hc3; clear hb3 hc3)
                    | (go_at_call 28; have hq := same_t _ _ S _ HR5.out (HF.out.1 _ HC.out) HF.out.2.2.2.2.1; (with_reducible refine Calls.mono hq ?_); clear hq; rintro e w11 ⟨rfl, hb11⟩; have hc11 := HC.out.trans (hb11.mono HC.out.size); clear HC HR5; have HC : Hid (Below wr.heap.size wr w11) := hc11; clear hb11 hc11)
                    | fail)
                all_goals
                  go_wp2_with fail
                  go_ret
                  exact ⟨rfl, HF.out.2.2.2.2.2.1.trans (HC.out.mono HF.out.2.2.2.2.2.1.size)⟩
              · have hp : (lc : Int) ≠ 0 := by omega
                go_region_held3 (fun _ => True) (first | exact trivial | fail)
                  (first
                    | (go_at_call 9; have hq := of_p (.slice va l.length vc) l.reverse _ (HF.out.2.2.1 _ HC.out) HLL.out.1; (with_reducible refine Calls.mono hq ?_); clear hq; rintro e w9 ⟨v9, s9, rfl, h9, o9, l9, hb9⟩; obtain ⟨a9, c9, rfl⟩ := own_form o9; have hs9 := (ofs_uniq (ofs_rev h9) HF.out.2.2.2.2.2.2).symm; subst hs9; have hc9 := HC.out.trans (hb9.mono HC.out.size); clear HC; have HC : Hid (Below wr.heap.size wr w9) := hc9; have HR1 : Hid (Sl .i32 w9 (.slice a9 S.length c9) S) := o9.sl; clear h9 o9 l9 hb9 hc9)
                    | (go_at_call 9; have hq := of_p (.slice xa SL xc) S _ (HF.out.1 _ HC.out) (by have := HSS.out; omega); (with_reducible refine Calls.mono hq ?_); clear hq; rintro e w10 ⟨v10, s10, rfl, h10, o10, l10, hb10⟩; obtain ⟨a10, c10, rfl⟩ := own_form o10; have hs10 := (ofs_uniq h10 (OfS.self HF.out.2.2.2.2.2.2.cn)).symm; subst hs10; have hc10 := HC.out.trans (hb10.mono HC.out.size); clear HC; have HC : Hid (Below wr.heap.size wr w10) := hc10; have HR5 : Hid (Sl .i32 w10 (.slice a10 S.length c10) S) := o10.sl; clear h10 o10 l10 hb10 hc10)
                    | (go_at_call 28; have hq := same_t _ _ S _ (HF.out.1 _ HC.out) HR1.out HF.out.2.2.2.2.1; (with_reducible refine Calls.mono hq ?_); clear hq; rintro e w8 ⟨rfl, hb8⟩; have hc8 := HC.out.trans (hb8.mono HC.out.size); clear HC HR1; have HC : Hid (Below wr.heap.size wr w8) := hc8; clear hb8 hc8)
                    | (go_at_call 28; have hq := same_t _ _ S _ (HF.out.1 _ HC.out) (HF.out.2.1 _ HC.out) HF.out.2.2.2.2.1; (with_reducible refine Calls.mono hq ?_); clear hq; rintro e w7 ⟨rfl, hb7⟩; have hc7 := HC.out.trans (hb7.mono HC.out.size); clear HC; have HC : Hid (Below wr.heap.size wr w7) := hc7; clear hb7 hc7)
                    | (go_at_call 9; (with_reducible refine Calls.mono (of_p (.slice _ _ _) (l.drop 0) _ (HE.out.2 _ _ _ _ (by have := HLN.out; omega)) (by have := HLL.out.2; omega)) ?_); rintro e w5 ⟨v5, s5, rfl, h5, o5, l5, hb5⟩; obtain ⟨a5, c5, rfl⟩ := own_form o5; have hc5 := HC.out.trans (hb5.mono HC.out.size); clear HC; have HC : Hid (Below wr.heap.size wr w5) := hc5; have HR3 : Hid (OfS (l.drop 0) s5 ∧ Sl .i32 w5 (.slice a5 s5.length c5) s5 ∧ s5.length ≤ (l.drop 0).length ∧ Sl .i32 w5 (.slice a6 s6.length c6) s6) := ⟨h5, o5.sl, l5, row_sl (row_below HR2.out.2.1 hb5)⟩; clear h5 o5 l5 hb5 hc5)
                    | (go_at_call 9; (with_reducible refine Calls.mono (of_p (.slice _ _ _) (l.take 0) _ (HE.out.1 _ _ _ _ (by have := HLN.out; omega)) (by have := HLL.out.2; omega)) ?_); rintro e w6 ⟨v6, s6, rfl, h6, o6, l6, hb6⟩; obtain ⟨a6, c6, rfl⟩ := own_form o6; have hc6 := HC.out.trans (hb6.mono HC.out.size); clear HC; have HC : Hid (Below wr.heap.size wr w6) := hc6; have HR2 : Hid (OfS (l.take 0) s6 ∧ Own .i32 50 w6 0 (.slice a6 s6.length c6) s6 ∧ s6.length ≤ (l.take 0).length) := ⟨h6, o6.mono (Nat.zero_le _), l6⟩; clear h6 o6 l6 hb6 hc6)
                    | (go_at_call 22; have hq := union_p _ _ s6 s5 _ HR3.out.2.2.2 HR3.out.2.1 (by have := HLL.out; have := HR2.out.2.2; have := HR3.out.2.2.1; omega); (with_reducible refine Calls.mono hq ?_); clear hq; rintro e w4' ⟨v4', s4', rfl, h4', o4', l4', hb4'⟩; obtain ⟨a4', c4', rfl⟩ := own_form o4'; have hs4 := (ofs_uniq (ofs_cut HR2.out.1 HR3.out.1 h4') HF.out.2.2.2.2.2.2).symm; subst hs4; have hc4 := HC.out.trans (hb4'.mono HC.out.size); clear HC; have HC : Hid (Below wr.heap.size wr w4') := hc4; have HR4 : Hid (Sl .i32 w4' (.slice a4' S.length c4') S) := o4'.sl; clear h4' o4' l4' hb4' hc4)
                    | (go_at_call 28; have hq := same_t _ _ S _ (HF.out.1 _ HC.out) HR4.out HF.out.2.2.2.2.1; (with_reducible refine Calls.mono hq ?_); clear hq; rintro e w3 ⟨rfl, hb3⟩; have hc3 := HC.out.trans (hb3.mono HC.out.size); clear HC HR4; have HC : Hid (Below wr.heap.size wr w3) := hc3; clear hb3 hc3)
                    | (go_at_call 28; have hq := same_t _ _ S _ HR5.out (HF.out.1 _ HC.out) HF.out.2.2.2.2.1; (with_reducible refine Calls.mono hq ?_); clear hq; rintro e w11 ⟨rfl, hb11⟩; have hc11 := HC.out.trans (hb11.mono HC.out.size); clear HC HR5; have HC : Hid (Below wr.heap.size wr w11) := hc11; clear hb11 hc11)
                    | fail)
                all_goals
                  go_wp2_with fail
                  go_ret
                  exact ⟨rfl, HF.out.2.2.2.2.2.1.trans (HC.out.mono HF.out.2.2.2.2.2.1.size)⟩
          · obtain ⟨g, off, rfl⟩ : ∃ g off, la = some ⟨g, off, none⟩ := by
              obtain ⟨a', c', e, _, hx⟩ := HK.out.2
              simp only [Value.slice.injEq] at e
              obtain ⟨rfl, _, rfl⟩ := e
              rcases hx with hx | ⟨g, off, rfl, _⟩
              · exact absurd hx hl0
              · exact ⟨g, off, rfl⟩
            by_cases hlc : lc = c
            · subst hlc
              have hlen0 : l.length = lc := by omega
              have HLN : Hid _ := hlen0
              have e2 : ∀ W : World, ∀ a n c', n = 0 → Sl .i32 W (.slice a n c') (l.drop lc) := fun W a n c' hn0 => by subst hn0; rw [List.drop_of_length_le (by omega)]; exact Sl.none
              have HE : Hid _ := e2
              clear e2 hlen0
              have b1 : (0 : Int) ≤ (lc : Int) := by omega
              have b2 : (lc : Int) ≤ (l.length : Int) := by omega
              go_region_held3 (fun _ => True) (first | exact trivial | fail)
                (first
                  | (go_at_call 9; have hq := of_p (.slice va l.length vc) l.reverse _ (HF.out.2.2.1 _ HC.out) HLL.out.1; (with_reducible refine Calls.mono hq ?_); clear hq; rintro e w9 ⟨v9, s9, rfl, h9, o9, l9, hb9⟩; obtain ⟨a9, c9, rfl⟩ := own_form o9; have hs9 := (ofs_uniq (ofs_rev h9) HF.out.2.2.2.2.2.2).symm; subst hs9; have hc9 := HC.out.trans (hb9.mono HC.out.size); clear HC; have HC : Hid (Below wr.heap.size wr w9) := hc9; have HR1 : Hid (Sl .i32 w9 (.slice a9 S.length c9) S) := o9.sl; clear h9 o9 l9 hb9 hc9)
                  | (go_at_call 9; have hq := of_p (.slice xa SL xc) S _ (HF.out.1 _ HC.out) (by have := HSS.out; omega); (with_reducible refine Calls.mono hq ?_); clear hq; rintro e w10 ⟨v10, s10, rfl, h10, o10, l10, hb10⟩; obtain ⟨a10, c10, rfl⟩ := own_form o10; have hs10 := (ofs_uniq h10 (OfS.self HF.out.2.2.2.2.2.2.cn)).symm; subst hs10; have hc10 := HC.out.trans (hb10.mono HC.out.size); clear HC; have HC : Hid (Below wr.heap.size wr w10) := hc10; have HR5 : Hid (Sl .i32 w10 (.slice a10 S.length c10) S) := o10.sl; clear h10 o10 l10 hb10 hc10)
                  | (go_at_call 28; have hq := same_t _ _ S _ (HF.out.1 _ HC.out) HR1.out HF.out.2.2.2.2.1; (with_reducible refine Calls.mono hq ?_); clear hq; rintro e w8 ⟨rfl, hb8⟩; have hc8 := HC.out.trans (hb8.mono HC.out.size); clear HC HR1; have HC : Hid (Below wr.heap.size wr w8) := hc8; clear hb8 hc8)
                  | (go_at_call 28; have hq := same_t _ _ S _ (HF.out.1 _ HC.out) (HF.out.2.1 _ HC.out) HF.out.2.2.2.2.1; (with_reducible refine Calls.mono hq ?_); clear hq; rintro e w7 ⟨rfl, hb7⟩; have hc7 := HC.out.trans (hb7.mono HC.out.size); clear HC; have HC : Hid (Below wr.heap.size wr w7) := hc7; clear hb7 hc7)
                  | (go_at_call 9; (with_reducible refine Calls.mono (of_p (.slice _ _ _) (l.drop lc) _ (HE.out _ _ _ _ (by have := HLN.out; omega)) (by have := HLL.out.2; omega)) ?_); rintro e w5 ⟨v5, s5, rfl, h5, o5, l5, hb5⟩; obtain ⟨a5, c5, rfl⟩ := own_form o5; have hc5 := HC.out.trans (hb5.mono HC.out.size); clear HC; have HC : Hid (Below wr.heap.size wr w5) := hc5; have HR3 : Hid (OfS (l.drop lc) s5 ∧ Sl .i32 w5 (.slice a5 s5.length c5) s5 ∧ s5.length ≤ (l.drop lc).length ∧ Sl .i32 w5 (.slice a6 s6.length c6) s6) := ⟨h5, o5.sl, l5, row_sl (row_below HR2.out.2.1 hb5)⟩; clear h5 o5 l5 hb5 hc5)
                  | (go_at_call 9; have hq := of_p (.slice (some ⟨g, off, none⟩) lc lc) (l.take lc) _ ((HF.out.2.2.2.1 _ HC.out).takeS hcl2) (by have := HLL.out.2.1; omega); (with_reducible refine Calls.mono hq ?_); clear hq; rintro e w6 ⟨v6, s6, rfl, h6, o6, l6, hb6⟩; obtain ⟨a6, c6, rfl⟩ := own_form o6; have hc6 := HC.out.trans (hb6.mono HC.out.size); clear HC; have HC : Hid (Below wr.heap.size wr w6) := hc6; have HR2 : Hid (OfS (l.take lc) s6 ∧ Own .i32 50 w6 0 (.slice a6 s6.length c6) s6 ∧ s6.length ≤ (l.take lc).length) := ⟨h6, o6.mono (Nat.zero_le _), l6⟩; clear h6 o6 l6 hb6 hc6)
                  | (go_at_call 22; have hq := union_p _ _ s6 s5 _ HR3.out.2.2.2 HR3.out.2.1 (by have := HLL.out; have := HR2.out.2.2; have := HR3.out.2.2.1; omega); (with_reducible refine Calls.mono hq ?_); clear hq; rintro e w4' ⟨v4', s4', rfl, h4', o4', l4', hb4'⟩; obtain ⟨a4', c4', rfl⟩ := own_form o4'; have hs4 := (ofs_uniq (ofs_cut HR2.out.1 HR3.out.1 h4') HF.out.2.2.2.2.2.2).symm; subst hs4; have hc4 := HC.out.trans (hb4'.mono HC.out.size); clear HC; have HC : Hid (Below wr.heap.size wr w4') := hc4; have HR4 : Hid (Sl .i32 w4' (.slice a4' S.length c4') S) := o4'.sl; clear h4' o4' l4' hb4' hc4)
                  | (go_at_call 28; have hq := same_t _ _ S _ (HF.out.1 _ HC.out) HR4.out HF.out.2.2.2.2.1; (with_reducible refine Calls.mono hq ?_); clear hq; rintro e w3 ⟨rfl, hb3⟩; have hc3 := HC.out.trans (hb3.mono HC.out.size); clear HC HR4; have HC : Hid (Below wr.heap.size wr w3) := hc3; clear hb3 hc3)
                  | (go_at_call 28; have hq := same_t _ _ S _ HR5.out (HF.out.1 _ HC.out) HF.out.2.2.2.2.1; (with_reducible refine Calls.mono hq ?_); clear hq; rintro e w11 ⟨rfl, hb11⟩; have hc11 := HC.out.trans (hb11.mono HC.out.size); clear HC HR5; have HC : Hid (Below wr.heap.size wr w11) := hc11; clear hb11 hc11)
                  | fail)
              all_goals
                go_wp2_with fail
                go_ret
                exact ⟨rfl, HF.out.2.2.2.2.2.1.trans (HC.out.mono HF.out.2.2.2.2.2.1.size)⟩
            · have hp : (lc : Int) ≠ (c : Int) := by omega
              have b1 : (0 : Int) ≤ (c : Int) := by omega
              have b2 : (c : Int) ≤ (l.length : Int) := by omega
              have b3 : (c : Int) ≤ (lc : Int) := by omega
              have b4 : (l.length : Int) ≤ (lc : Int) := by omega
              go_region_held3 (fun _ => True) (first | exact trivial | fail)
                (first
                  | (go_at_call 9; have hq := of_p (.slice va l.length vc) l.reverse _ (HF.out.2.2.1 _ HC.out) HLL.out.1; (with_reducible refine Calls.mono hq ?_); clear hq; rintro e w9 ⟨v9, s9, rfl, h9, o9, l9, hb9⟩; obtain ⟨a9, c9, rfl⟩ := own_form o9; have hs9 := (ofs_uniq (ofs_rev h9) HF.out.2.2.2.2.2.2).symm; subst hs9; have hc9 := HC.out.trans (hb9.mono HC.out.size); clear HC; have HC : Hid (Below wr.heap.size wr w9) := hc9; have HR1 : Hid (Sl .i32 w9 (.slice a9 S.length c9) S) := o9.sl; clear h9 o9 l9 hb9 hc9)
                  | (go_at_call 28; have hq := same_t _ _ S _ (HF.out.1 _ HC.out) HR1.out HF.out.2.2.2.2.1; (with_reducible refine Calls.mono hq ?_); clear hq; rintro e w8 ⟨rfl, hb8⟩; have hc8 := HC.out.trans (hb8.mono HC.out.size); clear HC HR1; have HC : Hid (Below wr.heap.size wr w8) := hc8; clear hb8 hc8)
                  | (go_at_call 28; have hq := same_t _ _ S _ (HF.out.1 _ HC.out) (HF.out.2.1 _ HC.out) HF.out.2.2.2.2.1; (with_reducible refine Calls.mono hq ?_); clear hq; rintro e w7 ⟨rfl, hb7⟩; have hc7 := HC.out.trans (hb7.mono HC.out.size); clear HC; have HC : Hid (Below wr.heap.size wr w7) := hc7; clear hb7 hc7)
                  | (go_at_call 9; have hq := of_p (.slice (some ⟨g, off, none⟩) c lc) (l.take c) _ ((HF.out.2.2.2.1 _ HC.out).takeS hcl2) (by have := HLL.out.2.1; omega); (with_reducible refine Calls.mono hq ?_); clear hq; rintro e w6 ⟨v6, s6, rfl, h6, o6, l6, hb6⟩; obtain ⟨a6, c6, rfl⟩ := own_form o6; have hc6 := HC.out.trans (hb6.mono HC.out.size); clear HC; have HC : Hid (Below wr.heap.size wr w6) := hc6; have HR2 : Hid (OfS (l.take c) s6 ∧ Own .i32 50 w6 0 (.slice a6 s6.length c6) s6 ∧ s6.length ≤ (l.take c).length) := ⟨h6, o6.mono (Nat.zero_le _), l6⟩; clear h6 o6 l6 hb6 hc6)
                  | (go_at_call 9; have hq := of_p (.slice (some ⟨g, off + c * 2, none⟩) (l.length - c) (lc - c)) (l.drop c) _ ((HF.out.2.2.2.1 _ HC.out).dropS hcl2) (by have := HLL.out.2.2; omega); (with_reducible refine Calls.mono hq ?_); clear hq; rintro e w5 ⟨v5, s5, rfl, h5, o5, l5, hb5⟩; obtain ⟨a5, c5, rfl⟩ := own_form o5; have hc5 := HC.out.trans (hb5.mono HC.out.size); clear HC; have HC : Hid (Below wr.heap.size wr w5) := hc5; have HR3 : Hid (OfS (l.drop c) s5 ∧ Sl .i32 w5 (.slice a5 s5.length c5) s5 ∧ s5.length ≤ (l.drop c).length ∧ Sl .i32 w5 (.slice a6 s6.length c6) s6) := ⟨h5, o5.sl, l5, row_sl (row_below HR2.out.2.1 hb5)⟩; clear h5 o5 l5 hb5 hc5)
                  | (go_at_call 22; have hq := union_p _ _ s6 s5 _ HR3.out.2.2.2 HR3.out.2.1 (by have := HLL.out; have := HR2.out.2.2; have := HR3.out.2.2.1; omega); (with_reducible refine Calls.mono hq ?_); clear hq; rintro e w4' ⟨v4', s4', rfl, h4', o4', l4', hb4'⟩; obtain ⟨a4', c4', rfl⟩ := own_form o4'; have hs4 := (ofs_uniq (ofs_cut HR2.out.1 HR3.out.1 h4') HF.out.2.2.2.2.2.2).symm; subst hs4; have hc4 := HC.out.trans (hb4'.mono HC.out.size); clear HC; have HC : Hid (Below wr.heap.size wr w4') := hc4; have HR4 : Hid (Sl .i32 w4' (.slice a4' S.length c4') S) := o4'.sl; clear h4' o4' l4' hb4' hc4)
                  | (go_at_call 28; have hq := same_t _ _ S _ (HF.out.1 _ HC.out) HR4.out HF.out.2.2.2.2.1; (with_reducible refine Calls.mono hq ?_); clear hq; rintro e w3 ⟨rfl, hb3⟩; have hc3 := HC.out.trans (hb3.mono HC.out.size); clear HC HR4; have HC : Hid (Below wr.heap.size wr w3) := hc3; clear hb3 hc3)
                  | (go_at_call 9; have hq := of_p (.slice xa SL xc) S _ (HF.out.1 _ HC.out) (by have := HSS.out; omega); (with_reducible refine Calls.mono hq ?_); clear hq; rintro e w10 ⟨v10, s10, rfl, h10, o10, l10, hb10⟩; obtain ⟨a10, c10, rfl⟩ := own_form o10; have hs10 := (ofs_uniq h10 (OfS.self HF.out.2.2.2.2.2.2.cn)).symm; subst hs10; have hc10 := HC.out.trans (hb10.mono HC.out.size); clear HC; have HC : Hid (Below wr.heap.size wr w10) := hc10; have HR5 : Hid (Sl .i32 w10 (.slice a10 S.length c10) S) := o10.sl; clear h10 o10 l10 hb10 hc10)
                  | (go_at_call 28; have hq := same_t _ _ S _ HR5.out (HF.out.1 _ HC.out) HF.out.2.2.2.2.1; (with_reducible refine Calls.mono hq ?_); clear hq; rintro e w11 ⟨rfl, hb11⟩; have hc11 := HC.out.trans (hb11.mono HC.out.size); clear HC HR5; have HC : Hid (Below wr.heap.size wr w11) := hc11; clear hb11 hc11)
                  | fail)
              all_goals
                go_wp2_with fail
                go_ret
                exact ⟨rfl, HF.out.2.2.2.2.2.1.trans (HC.out.mono HF.out.2.2.2.2.2.1.size)⟩
end Go.Proofs.Yteddjjabbehfdaa
