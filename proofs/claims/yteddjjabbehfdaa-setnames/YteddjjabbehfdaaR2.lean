/- The second telling: Same, Size, Has, Right. -/
import Derived.Test.YteddjjabbehfdaaR1
namespace Go.Proofs.Yteddjjabbehfdaa
open Go.RowKit
set_option linter.unusedVariables false

set_option maxHeartbeats 4000000 in
theorem same_r (va vb : Value) (a b : List Rg) (w : World) (ha : Sl .i64 w va a) (hb : Sl .i64 w vb b) (hn : a.length ≤ 1000000) (hm : b.length ≤ 1000000) : Calls Try.prog 12 #[sV va, sV vb] w fun e w' => e = .returned (.bool (decide (a = b))) ∧ Below w.heap.size w w' := by
  obtain ⟨xa, ca, rfl, hca⟩ := ha.len
  obtain ⟨xb, cb, rfl, hcb⟩ := hb.len
  obtain ⟨x1, x2, hbW⟩ := box2' w (.cells #[.slice xa a.length ca] 28) (.cells #[.slice xb b.length cb] 28)
  by_cases hl : a.length = b.length
  · have d0 : ((a.length : Int) != (b.length : Int)) = false := by simp [hl]
    obtain ⟨T, hT⟩ : ∃ T, decide (a = b) = T := ⟨_, rfl⟩
    rw [hT]
    have HL : Hid _ := And.intro hl hT
    clear hl hT
    go_enter Try.func12, Try.ntmps12
    go_upto_region 1 with fail
    obtain ⟨W, hW⟩ : ∃ W, (w.alloc (.cells #[.slice xa a.length ca] 28)).alloc (.cells #[.slice xb b.length cb] 28) = W := ⟨_, rfl⟩
    rw [hW] at x1 x2 hbW ⊢
    have hl := HL.out.1
    have HX : Hid _ := And.intro (ha.below hbW) (And.intro (hb.below hbW) (And.intro hl (And.intro HL.out.2 (And.intro hbW (And.intro x1 x2)))))
    obtain ⟨c0, _⟩ := blk1 x1
    obtain ⟨c1, _⟩ := blk1 x2
    clear ha hb hbW hW x1 x2
    obtain ⟨N, hN⟩ : ∃ N, a.length = N := ⟨_, rfl⟩
    rw [← hl] at c1
    rw [hN] at c0 c1 hn hca
    have HN : Hid _ := And.intro hN hl
    rw [← hl, hN] at d0
    clear hm hl hN hcb
    go_wp2_with fail
    clear c0 c1
    go_loopg [5] N (fun g v5 wr => ∃ k : Nat, k + g = N ∧ v5 = .int .i64 (k : Int) ∧ a.take k = b.take k ∧ Below W.heap.size W wr)
    case atStart => exact ⟨0, by omega, rfl, by simp, Below.refl _ _⟩
    case round =>
      obtain ⟨k, hk, rfl, htk, hbl⟩ := hrel
      have HB : Hid _ := And.intro htk hbl
      have y1 := (hbl.block _ (lt_of HX.out.2.2.2.2.2.1)).trans HX.out.2.2.2.2.2.1
      have y2 := (hbl.block _ (lt_of HX.out.2.2.2.2.2.2)).trans HX.out.2.2.2.2.2.2
      obtain ⟨c0, _⟩ := blk1 y1
      obtain ⟨c1, _⟩ := blk1 y2
      rw [HN.out.1] at c0
      rw [← HN.out.2, HN.out.1] at c1
      clear htk hbl y1 y2
      by_cases hlt : k < N
      · obtain ⟨g, rfl⟩ : ∃ g, gk = g + 1 := ⟨gk - 1, by omega⟩
        have hla : k < a.length := by have := HN.out.1; omega
        have hlb : k < b.length := by have := HN.out; omega
        obtain ⟨a', c', e, _, hx⟩ := HX.out.1
        simp only [Value.slice.injEq] at e
        obtain ⟨rfl, hdd, rfl⟩ := e
        clear hdd
        obtain ⟨a'', c'', e, _, hy⟩ := HX.out.2.1
        simp only [Value.slice.injEq] at e
        obtain ⟨rfl, hdd, rfl⟩ := e
        clear hdd
        rcases hx with hx | ⟨ga, oa, rfl, hga, hx⟩
        · rw [hx] at hla; simp at hla
        rcases hy with hy | ⟨gb, ob, rfl, hgb, hy⟩
        · rw [hy] at hlb; simp at hlb
        obtain ⟨q0, q1⟩ := hx k hla
        obtain ⟨q2, q3⟩ := hy k hlb
        have e0 := (HB.out.2.cell (p := ⟨ga, oa + k * 2, none⟩) hga).trans q0
        have e1 := (HB.out.2.cell (p := ⟨ga, oa + k * 2 + 1, none⟩) hga).trans q1
        have e2 := (HB.out.2.cell (p := ⟨gb, ob + k * 2, none⟩) hgb).trans q2
        have e3 := (HB.out.2.cell (p := ⟨gb, ob + k * 2 + 1, none⟩) hgb).trans q3
        have hsa := take_snoc hla
        have hsb := take_snoc hlb
        have hne : a[k] ≠ b[k] → T = false := fun q => by
          rw [← HX.out.2.2.2.1]
          exact decide_eq_false (fun e => q (by subst e; rfl))
        generalize a[k] = r at *
        generalize b[k] = t at *
        obtain ⟨r0, r1⟩ := r
        obtain ⟨t0, t1⟩ := t
        dsimp only at *
        clear q0 q1 q2 q3 hx hy hla hlb
        by_cases q0 : r0 = t0
        · by_cases q1 : r1 = t1
          · subst q0
            subst q1
            have hst : a.take (k + 1) = b.take (k + 1) := by rw [hsa, hsb, HB.out.1]
            have HS : Hid _ := hst
            clear hst hsa hsb hne
            go_wp2_with fail
            go_quiet (fail)
            go_wp2_with fail
            go_roundg g
            case measure => omega
            case rel => exact ⟨k + 1, by omega, by simp, HS.out, bdrewN HB.out.2 _⟩
          · have hf := hne (by simp [q1])
            subst hf
            clear hsa hsb hne
            go_wp2_with fail
            go_quiet (fail)
            go_wp2_with fail
            go_ret
            exact ⟨rfl, HX.out.2.2.2.2.1.trans ((bdrewN HB.out.2 _).mono HX.out.2.2.2.2.1.size)⟩
        · have hf := hne (by simp [q0])
          subst hf
          clear hsa hsb hne
          go_wp2_with fail
          go_quiet (fail)
          go_wp2_with fail
          go_ret
          exact ⟨rfl, HX.out.2.2.2.2.1.trans ((bdrewN HB.out.2 _).mono HX.out.2.2.2.2.1.size)⟩
      · have hab : T = true := by
          rw [← HX.out.2.2.2.1]
          have h1 := HB.out.1
          have h2 := HN.out
          rw [List.take_of_length_le (by omega), List.take_of_length_le (by omega)] at h1
          exact decide_eq_true h1
        subst hab
        go_wp2_with fail
        go_ret
        exact ⟨rfl, HX.out.2.2.2.2.1.trans (HB.out.2.mono HX.out.2.2.2.2.1.size)⟩
  · have d0 : ((a.length : Int) != (b.length : Int)) = true := by simp; omega
    have hne : decide (a = b) = false := decide_eq_false (fun q => hl (by rw [q]))
    rw [hne]
    go_enter Try.func12, Try.ntmps12
    go_upto_region 1 with fail
    obtain ⟨W, hW⟩ : ∃ W, (w.alloc (.cells #[.slice xa a.length ca] 28)).alloc (.cells #[.slice xb b.length cb] 28) = W := ⟨_, rfl⟩
    rw [hW] at x1 x2 hbW ⊢
    obtain ⟨c0, _⟩ := blk1 x1
    obtain ⟨c1, _⟩ := blk1 x2
    have HW : Hid _ := hbW
    clear hW x1 x2 hbW
    go_wp2_with fail
    go_ret
    exact ⟨rfl, HW.out⟩
set_option maxHeartbeats 2000000 in
theorem rsize_r (v : Value) (l : List Rg) (w : World) (h : Sl .i64 w v l) (hc : Cn l) (hn : l.length ≤ 1000000) : Calls Try.prog 17 #[sV v] w fun e w' => e = .returned (.int .i64 (sz l)) ∧ Below w.heap.size w w' := by
  obtain ⟨a, cap, rfl, hcap⟩ := h.len
  have hx := nw_heap w (.cells #[.slice a l.length cap] 28)
  have hbW : Below w.heap.size w (w.alloc (.cells #[.slice a l.length cap] 28)) := (Below.refl _ _).alloc (Nat.le_refl _) _
  go_enter Try.func17, Try.ntmps17
  go_upto_region 1 with fail
  obtain ⟨W, hW⟩ : ∃ W, w.alloc (.cells #[.slice a l.length cap] 28) = W := ⟨_, rfl⟩
  rw [hW] at hx hbW ⊢
  have HX : Hid _ := And.intro (h.below hbW) (And.intro hc (And.intro hx hbW))
  clear h hc hx hbW hW
  go_wp2_with fail
  go_loopg [3, 4] l.length (fun g v3 v4 wr => ∃ k : Nat, k + g = l.length ∧ v4 = .int .i64 (k : Int) ∧ v3 = .int .i64 (sz (l.take k)) ∧ Below W.heap.size W wr)
  case atStart => exact ⟨0, by omega, rfl, rfl, Below.refl _ _⟩
  case round =>
    obtain ⟨k, hk, rfl, rfl, hb⟩ := hrel
    have y1 := (hb.block _ (lt_of HX.out.2.2.1)).trans HX.out.2.2.1
    obtain ⟨c0, _⟩ := blk1 y1
    have HB : Hid _ := hb
    clear hb y1
    by_cases hlt : k < l.length
    · obtain ⟨g, rfl⟩ : ∃ g, gk = g + 1 := ⟨gk - 1, by omega⟩
      obtain ⟨a', c', e, _, hx⟩ := HX.out.1
      simp only [Value.slice.injEq] at e
      obtain ⟨rfl, hdd, rfl⟩ := e
      clear hdd
      rcases hx with hx | ⟨b, off, rfl, hbl, hx⟩
      · rw [hx] at hlt; simp at hlt
      obtain ⟨q0, q1⟩ := hx k hlt
      have e0 := (HB.out.cell (p := ⟨b, off + k * 2, none⟩) hbl).trans q0
      have e1 := (HB.out.cell (p := ⟨b, off + k * 2 + 1, none⟩) hbl).trans q1
      have hs := sz_in (HX.out.2.1.take k)
      have hok := HX.out.2.1.ok l[k] (by simp)
      have HS : Hid _ := (by rw [take_snoc hlt, sz_snoc] : sz (l.take (k + 1)) = sz (l.take k) + (l[k].2 - l[k].1 + 1))
      generalize l[k] = r at *
      obtain ⟨r0, r1⟩ := r
      dsimp only at *
      obtain ⟨hs0, hs1⟩ := hs
      generalize sz (l.take k) = S at *
      clear q0 q1 hx
      obtain ⟨o1, o2, o3⟩ := hok
      have o3' : r1 ≤ 1114111 := o3
      clear o3
      have w1 : IntKind.i64.wrap (S + r1) = S + r1 := by rw [IntKind.wrap_i64]; omega
      go_wp2_with fail
      go_quiet (fail)
      go_wp2_with fail
      go_roundg g
      case measure => omega
      case rel => exact ⟨k + 1, by omega, by simp, by rw [HS.out, show S + (r1 - r0 + 1) = S + r1 - r0 + 1 by omega], bdrewN HB.out _⟩
    · have hkl : k = l.length := by omega
      subst hkl
      go_wp2_with fail
      go_ret
      exact ⟨by rw [List.take_length]; rfl, HX.out.2.2.2.trans (HB.out.mono HX.out.2.2.2.size)⟩
end Go.Proofs.Yteddjjabbehfdaa
