/- SetEdges: the walk. -/
import Derived.Test.YteddjjabbehfdaaP9
namespace Go.Proofs.Yteddjjabbehfdaa
open Go.RowKit
set_option linter.unusedVariables false

def fE (r : Rg) : Int := if r.1 ≤ min r.2 MX then min r.2 MX - r.1 + 1 else 0
def sE (l : List Rg) : Int := l.foldl (fun n r => n + fE r) 0
theorem sE_snoc (l : List Rg) (r : Rg) : sE (l ++ [r]) = sE l + fE r := by
  unfold sE
  rw [List.foldl_append]
  rfl
/-- What the set is. -/
structure EdQ (lo n gap m : Int) (s : List Rg) : Prop where
  len : (s.length : Int) = if gap = 0 ∨ 1114111 < lo + n + gap then 1 else 2
  size : sz s = sE [(lo, lo + n - 1), (lo + n + gap, lo + n + gap + m - 1)]
  yes : memB s lo = true
  no : memB s (lo - 1) = false
theorem ed_of {lo n gap m : Int} {s : List Rg} (h : OfS [(lo + n + gap, lo + n + gap + m - 1), (lo, lo + n - 1)] s) (h0 : 0 ≤ lo) (h1 : 1 ≤ n) (h2 : 0 ≤ gap) (h3 : 1 ≤ m) (h4 : lo ≤ 1114111) : EdQ lo n gap m s := by
  have hM : MX = 1114111 := rfl
  have hmem : ∀ x, memB s x = true ↔ ((lo + n + gap ≤ x ∧ x ≤ lo + n + gap + m - 1) ∨ (lo ≤ x ∧ x ≤ lo + n - 1)) ∧ (0 ≤ x ∧ x ≤ MX) := fun x => by
    rw [h.mem]
    simp only [mem_cons, mem_nil, Bool.and_eq_true, Bool.or_eq_true, inR_iff, decide_eq_true_eq, Bool.false_eq_true, or_false]
  have hy : memB s lo = true := (hmem lo).2 (by omega)
  have hno : memB s (lo - 1) = false := by
    cases e : memB s (lo - 1) with
    | false => rfl
    | true => have := (hmem _).1 e; omega
  have hsE : sE [(lo, lo + n - 1), (lo + n + gap, lo + n + gap + m - 1)] = 0 + fE (lo, lo + n - 1) + fE (lo + n + gap, lo + n + gap + m - 1) := rfl
  by_cases c : gap = 0 ∨ 1114111 < lo + n + gap
  · have hs : s = [(lo, min (if gap = 0 then lo + n + m - 1 else lo + n - 1) MX)] := cn_ext s _ h.cn (Cn.one (by simp only []; split <;> omega)) (fun x => by
      rw [Bool.eq_iff_iff, hmem, mem_cons, mem_nil, Bool.or_false, inR_iff]
      simp only []
      split <;> omega)
    refine ⟨by rw [if_pos c, hs]; rfl, ?_, hy, hno⟩
    rw [hs, hsE]
    unfold fE sz
    simp only [List.foldl_cons, List.foldl_nil]
    split <;> split <;> split <;> omega
  · have hs : s = [(lo, lo + n - 1), (lo + n + gap, min (lo + n + gap + m - 1) MX)] := cn_ext s _ h.cn (Cn.cons (by intro x hx; simp only [List.mem_singleton] at hx; subst hx; simp only []; omega) (by simp only []; omega) (Cn.one (by simp only []; omega))) (fun x => by
      rw [Bool.eq_iff_iff, hmem, mem_cons, mem_cons, mem_nil, Bool.or_false, Bool.or_eq_true, inR_iff, inR_iff]
      simp only []
      omega)
    refine ⟨by rw [if_neg c, hs]; rfl, ?_, hy, hno⟩
    rw [hs, hsE]
    unfold fE sz
    simp only [List.foldl_cons, List.foldl_nil]
    split <;> split <;> omega
set_option maxRecDepth 8000 in
set_option maxHeartbeats 4000000 in
theorem edges_s (lo n gap m : Int) (w : World) : Calls Try.prog 7 #[.int .i32 lo, .int .i32 n, .int .i32 gap, .int .i32 m] w fun e w' => e = .returned (.bool true) ∧ Below w.heap.size w w' := by
  have HK : Hid _ := And.intro (fun W : World => known_p W) trivial
  by_cases h0 : lo < 0
  · have d : decide (lo < 0) = true := by simpa using h0
    go_enter Try.func7, Try.ntmps7
    go_wp2_with fail
    refine Calls.mono (HK.out.1 _) ?_
    rintro e w1 ⟨rfl, hb1⟩
    go_wp2_with fail
    go_ret
    exact ⟨rfl, hb1⟩
  have dh0 : decide (lo < 0) = false := by simpa using h0
  by_cases h1 : n < 1
  · have d : decide (n < 1) = true := by simpa using h1
    go_enter Try.func7, Try.ntmps7
    go_wp2_with fail
    refine Calls.mono (HK.out.1 _) ?_
    rintro e w1 ⟨rfl, hb1⟩
    go_wp2_with fail
    go_ret
    exact ⟨rfl, hb1⟩
  have dh1 : decide (n < 1) = false := by simpa using h1
  by_cases h2 : gap < 0
  · have d : decide (gap < 0) = true := by simpa using h2
    go_enter Try.func7, Try.ntmps7
    go_wp2_with fail
    refine Calls.mono (HK.out.1 _) ?_
    rintro e w1 ⟨rfl, hb1⟩
    go_wp2_with fail
    go_ret
    exact ⟨rfl, hb1⟩
  have dh2 : decide (gap < 0) = false := by simpa using h2
  by_cases h3 : m < 1
  · have d : decide (m < 1) = true := by simpa using h3
    go_enter Try.func7, Try.ntmps7
    go_wp2_with fail
    refine Calls.mono (HK.out.1 _) ?_
    rintro e w1 ⟨rfl, hb1⟩
    go_wp2_with fail
    go_ret
    exact ⟨rfl, hb1⟩
  have dh3 : decide (m < 1) = false := by simpa using h3
  by_cases h4 : 1114111 < lo
  · have d : decide (1114111 < lo) = true := by simpa using h4
    go_enter Try.func7, Try.ntmps7
    go_wp2_with fail
    refine Calls.mono (HK.out.1 _) ?_
    rintro e w1 ⟨rfl, hb1⟩
    go_wp2_with fail
    go_ret
    exact ⟨rfl, hb1⟩
  have dh4 : decide (1114111 < lo) = false := by simpa using h4
  by_cases h5 : 1000 < n
  · have d : decide (1000 < n) = true := by simpa using h5
    go_enter Try.func7, Try.ntmps7
    go_wp2_with fail
    refine Calls.mono (HK.out.1 _) ?_
    rintro e w1 ⟨rfl, hb1⟩
    go_wp2_with fail
    go_ret
    exact ⟨rfl, hb1⟩
  have dh5 : decide (1000 < n) = false := by simpa using h5
  by_cases h6 : 1000 < gap
  · have d : decide (1000 < gap) = true := by simpa using h6
    go_enter Try.func7, Try.ntmps7
    go_wp2_with fail
    refine Calls.mono (HK.out.1 _) ?_
    rintro e w1 ⟨rfl, hb1⟩
    go_wp2_with fail
    go_ret
    exact ⟨rfl, hb1⟩
  have dh6 : decide (1000 < gap) = false := by simpa using h6
  by_cases h7 : 1000 < m
  · have d : decide (1000 < m) = true := by simpa using h7
    go_enter Try.func7, Try.ntmps7
    go_wp2_with fail
    refine Calls.mono (HK.out.1 _) ?_
    rintro e w1 ⟨rfl, hb1⟩
    go_wp2_with fail
    go_ret
    exact ⟨rfl, hb1⟩
  have dh7 : decide (1000 < m) = false := by simpa using h7
  go_enter Try.func7, Try.ntmps7
  go_wp2_with fail
  refine Calls.mono (HK.out.1 _) ?_
  rintro e w1 ⟨rfl, hb1⟩
  obtain ⟨a1, ha1⟩ : ∃ a1, lo + n - 1 = a1 := ⟨_, rfl⟩
  obtain ⟨b0, hb0⟩ : ∃ b0, lo + n + gap = b0 := ⟨_, rfl⟩
  obtain ⟨b1, hb1'⟩ : ∃ b1, b0 + m - 1 = b1 := ⟨_, rfl⟩
  go_upto_region 7 with fail
  obtain ⟨x1, x2, hbW⟩ := box2' w1 (.cells #[.int .i32 lo, .int .i32 a1] 50) (.cells #[.int .i32 b0, .int .i32 b1] 50)
  obtain ⟨W, hW⟩ : ∃ W, (w1.alloc (.cells #[.int .i32 lo, .int .i32 a1] 50)).alloc (.cells #[.int .i32 b0, .int .i32 b1] 50) = W := ⟨_, rfl⟩
  rw [hW] at x1 x2 hbW ⊢
  have hbl : Below w.heap.size w W := hb1.trans (hbW.mono hb1.size)
  have e0 : a1 ≤ 1120000 := by omega
  have e1 : 0 ≤ a1 := by omega
  have e2 : b0 ≤ 1120000 := by omega
  have e3 : 0 ≤ b0 := by omega
  have e4 : b1 ≤ 1120000 := by omega
  have e5 : 0 ≤ b1 := by omega
  have hal := nw_heap W (.cells #[.int .i32 b0, .int .i32 b1, .int .i32 lo, .int .i32 a1] 50)
  have hba : Below W.heap.size W (W.alloc (.cells #[.int .i32 b0, .int .i32 b1, .int .i32 lo, .int .i32 a1] 50)) := (Below.refl _ _).alloc (Nat.le_refl _) _
  have hsl : Sl .i32 (W.alloc (.cells #[.int .i32 b0, .int .i32 b1, .int .i32 lo, .int .i32 a1] 50)) (.slice (some ⟨W.heap.size, 0, none⟩) 2 2) [(b0, b1), (lo, a1)] := sl_lit (l := [(b0, b1), (lo, a1)]) hal rfl
  have q1 := of_p _ _ _ hsl (by simp)
  have hed : ∀ s, OfS [(b0, b1), (lo, a1)] s → EdQ lo n gap m s := fun s hs => by
    have hs' : OfS [(lo + n + gap, lo + n + gap + m - 1), (lo, lo + n - 1)] s := by rw [hb0, hb1', ha1]; exact hs
    exact ed_of hs' (by omega) (by omega) (by omega) (by omega) (by omega)
  have hsE : sE [(lo, lo + n - 1), (lo + n + gap, lo + n + gap + m - 1)] = sE [(lo, a1), (b0, b1)] := by rw [hb0, hb1', ha1]
  obtain ⟨⟨c0, c1⟩, _, _⟩ := blk2 x1
  obtain ⟨⟨c2, c3⟩, _, _⟩ := blk2 x2
  have HQ : Hid _ := And.intro q1 (And.intro hba (And.intro hed (And.intro hsE (And.intro hbl (And.intro x1 (And.intro x2 (And.intro ha1 (And.intro hb0 hb1'))))))))
  clear q1 hba hed hsE hbl x1 x2 hal hsl hbW hW hb1 ha1 hb0 hb1'
  go_wp2_with fail
  refine Calls.mono HQ.out.1 ?_
  rintro e w2 ⟨v2, s2, rfl, hof, hown2, hl2, hb2⟩
  have hE := HQ.out.2.2.1 s2 hof
  obtain ⟨a2, cc2, rfl⟩ := own_form hown2
  have hbw2 : Below W.heap.size W w2 := HQ.out.2.1.trans (hb2.mono HQ.out.2.1.size)
  have hl2' : s2.length ≤ 2 := by simpa using hl2
  obtain ⟨SL, hSL⟩ : ∃ SL, s2.length = SL := ⟨_, rfl⟩
  have H2 : Hid _ := And.intro hE (And.intro hown2 (And.intro hbw2 (And.intro hof.cn hSL)))
  rw [hSL] at hl2' ⊢
  clear hE hof hown2 hb2 hl2 hbw2 c0 c1 c2 c3 hSL
  go_upto_region 8 with fail
  have y1 := (H2.out.2.2.1.block _ (lt_of HQ.out.2.2.2.2.2.1)).trans HQ.out.2.2.2.2.2.1
  have y2 := (H2.out.2.2.1.block _ (lt_of HQ.out.2.2.2.2.2.2.1)).trans HQ.out.2.2.2.2.2.2.1
  obtain ⟨⟨c0, c1⟩, _, _⟩ := blk2 y1
  obtain ⟨⟨c2, c3⟩, _, _⟩ := blk2 y2
  have hal := nw_heap w2 (.cells #[.int .i32 lo, .int .i32 a1, .int .i32 b0, .int .i32 b1] 50)
  have hba : Below w2.heap.size w2 (w2.alloc (.cells #[.int .i32 lo, .int .i32 a1, .int .i32 b0, .int .i32 b1] 50)) := (Below.refl _ _).alloc (Nat.le_refl _) _
  have hsl : Sl .i32 (w2.alloc (.cells #[.int .i32 lo, .int .i32 a1, .int .i32 b0, .int .i32 b1] 50)) (.slice (some ⟨w2.heap.size, 0, none⟩) 2 2) [(lo, a1), (b0, b1)] := sl_lit (l := [(lo, a1), (b0, b1)]) hal rfl
  have H3 : Hid _ := And.intro hsl hba
  clear y1 y2 hal hsl hba
  go_wp2_with fail
  clear c0 c1 c2 c3
  obtain ⟨L, hL⟩ : ∃ L : List Rg, [(lo, a1), (b0, b1)] = L := ⟨_, rfl⟩
  have hLl : L.length = 2 := by rw [← hL]; rfl
  have hbd : ∀ (k : Nat) (hk : k < L.length), 0 ≤ L[k].1 ∧ L[k].1 ≤ 1120000 ∧ 0 ≤ L[k].2 ∧ L[k].2 ≤ 1120000 := fun k hk => by
    subst hL
    have : k = 0 ∨ k = 1 := by omega
    rcases this with rfl | rfl
    · exact ⟨by simp only [List.getElem_cons_zero]; omega, by simp only [List.getElem_cons_zero]; omega, by simp only [List.getElem_cons_zero]; omega, by simp only [List.getElem_cons_zero]; omega⟩
    · exact ⟨by simp only [List.getElem_cons_succ, List.getElem_cons_zero]; omega, by simp only [List.getElem_cons_succ, List.getElem_cons_zero]; omega, by simp only [List.getElem_cons_succ, List.getElem_cons_zero]; omega, by simp only [List.getElem_cons_succ, List.getElem_cons_zero]; omega⟩
  have HL : Hid _ := And.intro hL (And.intro hLl hbd)
  clear hL hLl hbd
  go_loopg [12, 76] 2 (fun g v12 v76 wr => ∃ k : Nat, k + g = 2 ∧ v76 = .int .i64 (k : Int) ∧ v12 = .int .i64 (sE (L.take k)) ∧ 0 ≤ sE (L.take k) ∧ sE (L.take k) ≤ (k : Int) * 2000000 ∧ Below w2.heap.size w2 wr ∧ Sl .i32 wr (.slice (some ⟨w2.heap.size, 0, none⟩) 2 2) L)
  case atStart =>
    have := H3.out.1
    rw [HL.out.1] at this
    exact ⟨0, by omega, rfl, rfl, by simp [sE], by simp [sE], H3.out.2, this⟩
  case round =>
    obtain ⟨k, hk, rfl, rfl, s0, s1, hbr, hslr⟩ := hrel
    have HB : Hid _ := And.intro hbr hslr
    clear hbr hslr
    by_cases hlt : k < 2
    · obtain ⟨g, rfl⟩ : ∃ g, gk = g + 1 := ⟨gk - 1, by omega⟩
      have hkl : k < L.length := by have := HL.out.2.1; omega
      obtain ⟨xa, xc, hxe, _, hx⟩ := HB.out.2
      simp only [Value.slice.injEq] at hxe
      obtain ⟨rfl, hNl, rfl⟩ := hxe
      clear hNl
      rcases hx with hx | ⟨b, off, hbo, hbl, hx⟩
      · rw [hx] at hkl; simp at hkl
      simp only [Option.some.injEq, Addr.mk.injEq, and_true] at hbo
      obtain ⟨rfl, rfl⟩ := hbo
      obtain ⟨k0, k1⟩ := hx k hkl
      rw [Nat.zero_add] at k0 k1
      obtain ⟨o1, o2, o3, o4⟩ := HL.out.2.2 k hkl
      have hsn := sE_snoc (L.take k) L[k]
      rw [← take_snoc hkl] at hsn
      generalize L[k] = r at *
      obtain ⟨r0, r1⟩ := r
      dsimp only at *
      have hfe : fE (r0, r1) = if r0 ≤ min r1 1114111 then min r1 1114111 - r0 + 1 else 0 := rfl
      have hal : ∀ o, Below wr.heap.size wr (wr.alloc o) := fun o => (Below.refl _ _).alloc (Nat.le_refl _) o
      have HS : Hid _ := And.intro hsn hal
      clear hsn hx hal
      generalize sE (L.take k) = S at *
      have hrel : ∀ o V, V = S + fE (r0, r1) → 0 ≤ V → V ≤ (k : Int) * 2000000 + 2000000 → ∃ k' : Nat, k' + g = 2 ∧ Value.int .i64 ((k : Int) + 1) = .int .i64 (k' : Int) ∧ Value.int .i64 V = .int .i64 (sE (L.take k')) ∧ 0 ≤ sE (L.take k') ∧ sE (L.take k') ≤ (k' : Int) * 2000000 ∧ Below w2.heap.size w2 (wr.alloc o) ∧ Sl .i32 (wr.alloc o) (.slice (some ⟨w2.heap.size, 0, none⟩) 2 2) L := fun o V hV v0 v1 =>
        ⟨k + 1, by omega, by simp, by rw [HS.out.1, hV], by rw [HS.out.1]; omega, by rw [HS.out.1, ← hV]; omega, HB.out.1.trans ((HS.out.2 o).mono HB.out.1.size), HB.out.2.below (HS.out.2 o)⟩
      have HR : Hid _ := hrel
      clear hrel
      by_cases t1 : 1114111 < r1
      · rw [Int.min_eq_right (by omega)] at hfe
        by_cases t2 : r0 ≤ 1114111
        · rw [if_pos t2] at hfe
          have HF : Hid _ := hfe
          clear hfe
          go_wp2_with fail
          go_roundg g
          case measure => omega
          case rel => exact HR.out _ _ (by rw [HF.out]; omega) (by omega) (by omega)
        · rw [if_neg t2] at hfe
          have HF : Hid _ := hfe
          clear hfe
          go_wp2_with fail
          go_roundg g
          case measure => omega
          case rel => exact HR.out _ _ (by rw [HF.out]; omega) (by omega) (by omega)
      · rw [Int.min_eq_left (by omega)] at hfe
        by_cases t2 : r0 ≤ r1
        · rw [if_pos t2] at hfe
          have HF : Hid _ := hfe
          clear hfe
          go_wp2_with fail
          go_roundg g
          case measure => omega
          case rel => exact HR.out _ _ (by rw [HF.out]; omega) (by omega) (by omega)
        · rw [if_neg t2] at hfe
          have HF : Hid _ := hfe
          clear hfe
          go_wp2_with fail
          go_roundg g
          case measure => omega
          case rel => exact HR.out _ _ (by rw [HF.out]; omega) (by omega) (by omega)
    · have hk2 : k = 2 := by omega
      subst hk2
      have htk : L.take 2 = L := List.take_of_length_le (by have := HL.out.2.1; omega)
      rw [htk] at s0 s1 ⊢
      have hszE : sz s2 = sE L := by rw [← HL.out.1, ← HQ.out.2.2.2.1]; exact H2.out.1.size
      generalize sE L = S at *
      have hlen := H2.out.1.len
      have hsl : ∀ W' : World, Below w2.heap.size w2 W' → Sl .i32 W' (.slice a2 SL cc2) s2 := fun W' hb => by
        have h := (H2.out.2.1.below hb).sl
        rw [H2.out.2.2.2.2] at h
        exact h
      rw [H2.out.2.2.2.2, HQ.out.2.2.2.2.2.2.2.2.1] at hlen
      have hsl2 : s2.length ≤ 1000000 := by have := H2.out.2.2.2.2; omega
      have p1 := fun (W' : World) (hb : Below w2.heap.size w2 W') => size_p _ s2 W' (hsl W' hb) H2.out.2.2.2.1 hsl2
      have p2 := fun (W' : World) (hb : Below w2.heap.size w2 W') => right_p _ s2 W' (hsl W' hb) hsl2
      have p3 := fun (W' : World) (hb : Below w2.heap.size w2 W') => has_p _ s2 lo W' (hsl W' hb) H2.out.2.2.2.1 hsl2
      have p4 := fun (W' : World) (hb : Below w2.heap.size w2 W') => has_p _ s2 (lo - 1) W' (hsl W' hb) H2.out.2.2.2.1 hsl2
      rw [hszE] at p1
      rw [rt_cn H2.out.2.2.2.1] at p2
      rw [H2.out.1.yes] at p3
      rw [H2.out.1.no] at p4
      have y2 := (HB.out.1.block _ (by have := H2.out.2.2.1.size; have := lt_of HQ.out.2.2.2.2.2.2.1; omega)).trans ((H2.out.2.2.1.block _ (lt_of HQ.out.2.2.2.2.2.2.1)).trans HQ.out.2.2.2.2.2.2.1)
      obtain ⟨⟨c2, c3⟩, _, _⟩ := blk2 y2
      have HP : Hid _ := And.intro p1 (And.intro p2 (And.intro p3 p4))
      clear p1 p2 p3 p4 y2 hsl hszE htk c3 hsl2
      have HBB : Hid (Below w2.heap.size w2 wr) := HB.out.1
      clear HB
      have hw : Below w.heap.size w w2 := HQ.out.2.2.2.2.1.trans (H2.out.2.2.1.mono HQ.out.2.2.2.2.1.size)
      have HW : Hid _ := hw
      clear hw
      by_cases g0 : gap = 0
      · have g0' : (gap == 0) = true := by simpa using g0
        have hS1 : SL = 1 := by rw [if_pos (.inl g0)] at hlen; omega
        subst hS1
        clear hlen
        go_wp2_with fail
        refine Calls.mono (HP.out.1 _ HBB.out) ?_
        rintro e w4 ⟨rfl, hb4⟩
        have HBB : Hid (Below w2.heap.size w2 w4) := HBB.out.trans (hb4.mono HBB.out.size)
        clear hb4
        go_wp2_with fail
        refine Calls.mono (HP.out.2.1 _ HBB.out) ?_
        rintro e w5 ⟨rfl, hb5⟩
        have HBB : Hid (Below w2.heap.size w2 w5) := HBB.out.trans (hb5.mono HBB.out.size)
        clear hb5
        go_wp2_with fail
        refine Calls.mono (HP.out.2.2.1 _ HBB.out) ?_
        rintro e w6 ⟨rfl, hb6⟩
        have HBB : Hid (Below w2.heap.size w2 w6) := HBB.out.trans (hb6.mono HBB.out.size)
        clear hb6
        go_wp2_with fail
        refine Calls.mono (HP.out.2.2.2 _ HBB.out) ?_
        rintro e w7 ⟨rfl, hb7⟩
        have HBB : Hid (Below w2.heap.size w2 w7) := HBB.out.trans (hb7.mono HBB.out.size)
        clear hb7
        go_wp2_with fail
        go_ret
        exact ⟨rfl, HW.out.trans (HBB.out.mono HW.out.size)⟩
      · have g0' : (gap == 0) = false := by simpa using g0
        by_cases g1 : 1114111 < b0
        · have g1' : decide (1114111 < b0) = true := by simpa using g1
          have hS1 : SL = 1 := by rw [if_pos (.inr g1)] at hlen; omega
          subst hS1
          clear hlen
          go_wp2_with fail
          refine Calls.mono (HP.out.1 _ HBB.out) ?_
          rintro e w4 ⟨rfl, hb4⟩
          have HBB : Hid (Below w2.heap.size w2 w4) := HBB.out.trans (hb4.mono HBB.out.size)
          clear hb4
          go_wp2_with fail
          refine Calls.mono (HP.out.2.1 _ HBB.out) ?_
          rintro e w5 ⟨rfl, hb5⟩
          have HBB : Hid (Below w2.heap.size w2 w5) := HBB.out.trans (hb5.mono HBB.out.size)
          clear hb5
          go_wp2_with fail
          refine Calls.mono (HP.out.2.2.1 _ HBB.out) ?_
          rintro e w6 ⟨rfl, hb6⟩
          have HBB : Hid (Below w2.heap.size w2 w6) := HBB.out.trans (hb6.mono HBB.out.size)
          clear hb6
          go_wp2_with fail
          refine Calls.mono (HP.out.2.2.2 _ HBB.out) ?_
          rintro e w7 ⟨rfl, hb7⟩
          have HBB : Hid (Below w2.heap.size w2 w7) := HBB.out.trans (hb7.mono HBB.out.size)
          clear hb7
          go_wp2_with fail
          go_ret
          exact ⟨rfl, HW.out.trans (HBB.out.mono HW.out.size)⟩
        · have g1' : decide (1114111 < b0) = false := by simpa using g1
          have hS1 : SL = 2 := by rw [if_neg (by omega)] at hlen; omega
          subst hS1
          clear hlen
          go_wp2_with fail
          refine Calls.mono (HP.out.1 _ HBB.out) ?_
          rintro e w4 ⟨rfl, hb4⟩
          have HBB : Hid (Below w2.heap.size w2 w4) := HBB.out.trans (hb4.mono HBB.out.size)
          clear hb4
          go_wp2_with fail
          refine Calls.mono (HP.out.2.1 _ HBB.out) ?_
          rintro e w5 ⟨rfl, hb5⟩
          have HBB : Hid (Below w2.heap.size w2 w5) := HBB.out.trans (hb5.mono HBB.out.size)
          clear hb5
          go_wp2_with fail
          refine Calls.mono (HP.out.2.2.1 _ HBB.out) ?_
          rintro e w6 ⟨rfl, hb6⟩
          have HBB : Hid (Below w2.heap.size w2 w6) := HBB.out.trans (hb6.mono HBB.out.size)
          clear hb6
          go_wp2_with fail
          refine Calls.mono (HP.out.2.2.2 _ HBB.out) ?_
          rintro e w7 ⟨rfl, hb7⟩
          have HBB : Hid (Below w2.heap.size w2 w7) := HBB.out.trans (hb7.mono HBB.out.size)
          clear hb7
          go_wp2_with fail
          go_ret
          exact ⟨rfl, HW.out.trans (HBB.out.mono HW.out.size)⟩
end Go.Proofs.Yteddjjabbehfdaa
