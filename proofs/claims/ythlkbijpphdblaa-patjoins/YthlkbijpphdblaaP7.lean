/- The program: Equal, Same, Minus; Grow, Concat, Union. -/
import Derived.Test.YthlkbijpphdblaaP6
import Derived.Lib.AppendZeros
namespace Go.Proofs.Ythlkbijpphdblaa
open Go.RowKit
set_option linter.unusedVariables false

set_option maxHeartbeats 2000000 in
theorem equal_p (va vb : Value) (a b : List Rg) (w : World) (ha : Sl .i32 w va a) (hb : Sl .i32 w vb b) (hn : a.length ≤ 1000000) (hm : b.length ≤ 1000000) : Calls Try.prog 29 #[va, vb] w fun e w' => e = .returned (.bool (decide (a = b))) ∧ Below w.heap.size w w' := by
  obtain ⟨xa, ca, rfl, hca, ha⟩ := ha
  obtain ⟨xb, cb, rfl, hcb, hb⟩ := hb
  by_cases hl : a.length = b.length
  · have d0 : ((a.length : Int) != (b.length : Int)) = false := by simp [hl]
    obtain ⟨T, hT⟩ : ∃ T, decide (a = b) = T := ⟨_, rfl⟩
    rw [hT]
    have HX : Hid _ := And.intro ha (And.intro hb (And.intro hl hT))
    clear ha hb hT
    obtain ⟨N, hN⟩ : ∃ N, a.length = N := ⟨_, rfl⟩
    rw [← hl] at hcb ⊢
    rw [hN] at hcb hca hn ⊢
    have HN : Hid _ := And.intro hN hl
    rw [← hl, hN] at d0
    clear hm hl hN
    go_enter Try.func29, Try.ntmps29
    go_wp2_with fail
    go_loopg [13] N (fun g v13 wr => ∃ k : Nat, k + g = N ∧ v13 = .int .i64 (k : Int) ∧ a.take k = b.take k ∧ Below w.heap.size w wr)
    case atStart => exact ⟨0, by omega, rfl, by simp, Below.refl _ _⟩
    case round =>
      obtain ⟨k, hk, rfl, htk, hbl⟩ := hrel
      have HB : Hid _ := And.intro htk hbl
      clear htk hbl
      by_cases hlt : k < N
      · obtain ⟨g, rfl⟩ : ∃ g, gk = g + 1 := ⟨gk - 1, by omega⟩
        have hla : k < a.length := by have := HN.out.1; omega
        have hlb : k < b.length := by have := HN.out; omega
        rcases HX.out.1 with hx | ⟨ga, oa, rfl, hga, hx⟩
        · rw [hx] at hla; simp at hla
        rcases HX.out.2.1 with hy | ⟨gb, ob, rfl, hgb, hy⟩
        · rw [hy] at hlb; simp at hlb
        obtain ⟨c0, c1⟩ := hx k hla
        obtain ⟨c2, c3⟩ := hy k hlb
        have e0 := (HB.out.2.cell (p := ⟨ga, oa + k * 2, none⟩) hga).trans c0
        have e1 := (HB.out.2.cell (p := ⟨ga, oa + k * 2 + 1, none⟩) hga).trans c1
        have e2 := (HB.out.2.cell (p := ⟨gb, ob + k * 2, none⟩) hgb).trans c2
        have e3 := (HB.out.2.cell (p := ⟨gb, ob + k * 2 + 1, none⟩) hgb).trans c3
        have hsa := take_snoc hla
        have hsb := take_snoc hlb
        have hne : a[k] ≠ b[k] → T = false := fun q => by
          rw [← HX.out.2.2.2]
          exact decide_eq_false (fun e => q (by subst e; rfl))
        generalize a[k] = r at *
        generalize b[k] = t at *
        obtain ⟨r0, r1⟩ := r
        obtain ⟨t0, t1⟩ := t
        dsimp only at *
        clear c0 c1 c2 c3 hx hy hla hlb
        by_cases q0 : r0 = t0
        · by_cases q1 : r1 = t1
          · subst q0
            subst q1
            have hst : a.take (k + 1) = b.take (k + 1) := by rw [hsa, hsb, HB.out.1]
            have HS : Hid _ := hst
            clear hst hsa hsb hne
            go_wp2_with fail
            go_quiet (fail)
            go_wp2_with fail
            go_roundg g
            case measure => omega
            case rel => exact ⟨k + 1, by omega, by simp, HS.out, bdrewN HB.out.2 _⟩
          · have hf := hne (by simp [q1])
            subst hf
            clear hsa hsb hne
            go_wp2_with fail
            go_quiet (fail)
            go_wp2_with fail
            go_ret
            exact ⟨rfl, bdrewN HB.out.2 _⟩
        · have hf := hne (by simp [q0])
          subst hf
          clear hsa hsb hne
          go_wp2_with fail
          go_quiet (fail)
          go_wp2_with fail
          go_ret
          exact ⟨rfl, bdrewN HB.out.2 _⟩
      · have hab : T = true := by
          rw [← HX.out.2.2.2]
          have h1 := HB.out.1
          have h2 := HN.out
          rw [List.take_of_length_le (by omega), List.take_of_length_le (by omega)] at h1
          exact decide_eq_true h1
        subst hab
        go_wp2_with fail
        go_ret
        exact ⟨rfl, HB.out.2⟩
  · have d0 : ((a.length : Int) != (b.length : Int)) = true := by simp; omega
    have hne : decide (a = b) = false := decide_eq_false (fun q => hl (by rw [q]))
    rw [hne]
    go_enter Try.func29, Try.ntmps29
    go_wp2_with fail
    go_ret
    exact ⟨rfl, Below.refl _ _⟩
theorem same_p (va vb : Value) (a b : List Rg) (w : World) (ha : Sl .i32 w va a) (hb : Sl .i32 w vb b) (hn : a.length ≤ 1000000) (hm : b.length ≤ 1000000) : Calls Try.prog 14 #[va, vb] w fun e w' => e = .returned (.bool (decide (a = b))) ∧ Below w.heap.size w w' := by
  have q1 := equal_p va vb a b w ha hb hn hm
  generalize decide (a = b) = B at *
  have HQ : Hid _ := q1
  clear q1
  obtain ⟨x, c, rfl, _⟩ := ha.len
  obtain ⟨y, d, rfl, _⟩ := hb.len
  go_enter Try.func14, Try.ntmps14
  go_wp2_with fail
  refine Calls.mono HQ.out ?_
  rintro e w1 ⟨rfl, hb1⟩
  go_wp2_with fail
  go_ret
  exact ⟨rfl, hb1⟩
/-- What Both tells, of sets. -/
structure BothS (a b s : List Rg) : Prop where
  cn : Cn s
  mem : ∀ x, memB s x = (memB a x && memB b x)
theorem both_S {a b s : List Rg} (ha : Cn a) (hb : Cn b) (h : OfS (bothL (a.length + b.length) a b) s) : BothS a b s := ⟨h.cn, fun x => by
  rw [h.mem, both_mem _ a b (Nat.le_refl _) ha hb]
  cases e : memB a x with
  | false => simp
  | true => rw [decide_eq_true (ha.in e)]; simp⟩
def MinQ (a b : List Rg) (w : World) (e : Ending) (w' : World) : Prop := ∃ v s n, e = .returned v ∧ NotS b n ∧ BothS a n s ∧ Own .i32 64 w' w.heap.size v s ∧ s.length ≤ a.length + b.length + 1 ∧ Below w.heap.size w w'
theorem minus_p (va vb : Value) (a b : List Rg) (w : World) (ha : Sl .i32 w va a) (hb : Sl .i32 w vb b) (ca : Cn a) (cb : Cn b) (hn : a.length + b.length ≤ 40000) : Calls Try.prog 88 #[va, vb] w fun e w' => MinQ a b w e w' := by
  have HX : Hid _ := And.intro ha (And.intro ca cb)
  have q1 := not_p vb b w hb cb (by omega)
  have HQ : Hid _ := q1
  clear q1
  obtain ⟨x, c, rfl, _⟩ := ha.len
  obtain ⟨y, d, rfl, _⟩ := hb.len
  clear ha hb ca cb
  go_enter Try.func88, Try.ntmps88
  go_wp2_with fail
  refine Calls.mono HQ.out ?_
  rintro e w1 ⟨v1, n1, rfl, hn1, hown1, hl1, hb1⟩
  have H1 : Hid _ := And.intro hn1 (And.intro hown1 hb1)
  clear hn1 hown1 hb1
  go_wp2_with fail
  refine Calls.mono (both_p _ _ a n1 w1 (HX.out.1.below H1.out.2.2) H1.out.2.1.sl (by omega)) ?_
  rintro e w2 ⟨v2, s2, rfl, hof, hown2, hl2, hb2⟩
  have H2 : Hid _ := And.intro (both_S HX.out.2.1 H1.out.1.cn hof) (And.intro (hown2.mono H1.out.2.2.size) (And.intro (H1.out.2.2.trans (hb2.mono H1.out.2.2.size)) (by omega : s2.length ≤ a.length + b.length + 1)))
  clear hof hown2 hb2
  go_wp2_with fail
  go_ret
  exact ⟨_, s2, n1, rfl, H1.out.1, H2.out.1, H2.out.2.1, H2.out.2.2.2, H2.out.2.2.1⟩
set_option maxRecDepth 8000 in
set_option maxHeartbeats 1000000 in
theorem grow_p (n : Nat) (w : World) (hn : n ≤ 1000000) : Calls Try.prog 52 #[.slice none 0 0, .int .i64 (n : Int)] w fun e w' => ∃ v, e = .returned v ∧ Own .i32 64 w' w.heap.size v [] ∧ Below w.heap.size w w' := by
  obtain ⟨i50, z50, hi50, hz0, hzc, hz1, hz3⟩ := info_rgp
  by_cases h0 : n = 0
  · subst h0
    go_enter Try.func52, Try.ntmps52
    go_wp2_with fail
    go_ret
    exact ⟨_, rfl, Own.nil _ _ _ _, Below.refl _ _⟩
  · have happ := Lib.run_append_nil_zeros (P := Try.prog) w 24 3 24 64 i50 z50 .i64 .i64 Try.underlying24 Try.underlying3 hi50 hz0 n (by omega) (by omega) (by omega) (by rw [hz3]; omega)
    generalize hcap : grownCap w n 0 64 = cap2 at happ
    have hcapge : n ≤ cap2 := by rw [← hcap]; exact grownCap_ge w _ 0 64
    have hcaple : cap2 ≤ maxLen := by rw [← hcap]; exact grownCap_le_maxLen w _ 0 64 (by unfold maxLen; omega)
    generalize hZ : (Builtin.zeroCells z50.cells n ++ Builtin.zeroCells z50.cells (cap2 - n)) = Z at happ
    have hZs : Z.size = cap2 * 2 := by rw [← hZ]; simp [size_zeroCells, hzc]; omega
    have hbel : Below w.heap.size w (w.drew.alloc (.cells Z 64)) := ⟨rfl, rfl, rfl, by simp, fun k hk => Below.heap_alloc w _ k hk⟩
    have hown : Own .i32 64 (w.drew.alloc (.cells Z 64)) w.heap.size (.slice (some ⟨w.heap.size, 0, none⟩) 0 cap2) [] := ⟨rfl, .inr ⟨w.heap.size, cap2, Z, rfl, Nat.le_refl _, heap_alloc_new w _, Nat.zero_le _, hcaple, hZs, by simp⟩⟩
    have HA : Hid _ := And.intro happ (And.intro hbel hown)
    unfold maxLen at hcaple
    clear hcap hZ happ hbel hown hZs
    have d1 : (0 : Int) < (n : Int) := by omega
    go_enter Try.func52, Try.ntmps52
    go_wp2_with (first | (at_builtin; go_loud (refine Lib.wpList_append_run _ rfl (.tmp 20) (.tmp 21) 24 3 rfl _ _ rfl rfl _ _ HA.out.1 ?_)))
    go_ret
    exact ⟨_, rfl, HA.out.2.2, HA.out.2.1⟩
end Go.Proofs.Ythlkbijpphdblaa
