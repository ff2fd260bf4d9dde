/- Joined: R1, R2. -/
import Derived.Test.YthlkbijpphdblaaZ17
namespace Go.Proofs.Ythlkbijpphdblaa
open Go.RowKit
set_option linter.unusedVariables false

theorem info_rr : (Try.prog.info? 77).map (fun i => (i.zero.map fun z => z.cells.size, i.size, i.bytes)) = some (some 2, 2, 16) := by kernel_rfl
theorem info_rrp : ∃ i z, Try.prog.info? 77 = some i ∧ i.zero = some z ∧ z.cells.size = 2 ∧ i.size = 2 ∧ i.bytes = 16 := by
  have := info_rr
  cases h : Try.prog.info? 77 with
  | none => rw [h] at this; simp at this
  | some i =>
    rw [h] at this
    simp at this
    obtain ⟨⟨z, h1, h2⟩, h3, h4⟩ := this
    exact ⟨i, z, rfl, h1, h2, h3, h4⟩
def In32 (l : List Rg) : Prop := ∀ r ∈ l, (-2147483648 ≤ r.1 ∧ r.1 ≤ 2147483647) ∧ (-2147483648 ≤ r.2 ∧ r.2 ≤ 2147483647)
theorem cn_in32 {l : List Rg} (h : Cn l) : In32 l := fun r hr => by
  have := h.ok r hr
  have hM : MX = 1114111 := rfl
  omega
def OfrQ (l : List Rg) (w : World) (e : Ending) (w' : World) : Prop := ∃ a c, e = .returned (.slice a l.length c) ∧ Own .i64 77 w' w.heap.size (.slice a l.length c) l ∧ Below w.heap.size w w'
set_option maxHeartbeats 4000000 in
theorem ofr_r (v : Value) (l : List Rg) (w : World) (h : Sl .i32 w v l) (hi32 : In32 l) (hn : l.length ≤ 100000) : Calls Try.prog 39 #[v] w fun e w' => OfrQ l w e w' := by
  obtain ⟨i58, z58, hi58, hz0, hzc, hz1, hz3⟩ := info_rrp
  obtain ⟨la, lc, rfl, _⟩ := h.len
  have HX : Hid _ := And.intro h hi32
  clear h hi32
  go_enter Try.func39, Try.ntmps39
  go_wp2_with fail
  go_loopg [3, 4] l.length (fun g v3 v4 wr => ∃ k : Nat, k + g = l.length ∧ v4 = .int .i64 (k : Int) ∧ Own .i64 77 wr w.heap.size v3 (l.take k) ∧ Below w.heap.size w wr)
  case atStart => exact ⟨0, by omega, rfl, Own.nil _ _ _ _, Below.refl _ _⟩
  case round =>
    obtain ⟨k, hk, rfl, hown, hb⟩ := hrel
    obtain ⟨va, vc, rfl⟩ := own_form hown
    have HB : Hid _ := And.intro hown hb
    clear hown hb
    by_cases hlt : k < l.length
    · obtain ⟨g, rfl⟩ : ∃ g, gk = g + 1 := ⟨gk - 1, by omega⟩
      obtain ⟨a', c', e, _, hx⟩ := HX.out.1
      simp only [Value.slice.injEq] at e
      obtain ⟨rfl, hdd, rfl⟩ := e
      clear hdd
      rcases hx with hx | ⟨b, off, rfl, hbl, hx⟩
      · rw [hx] at hlt; simp at hlt
      have hcells : ∀ W, Below w.heap.size w W → (W.cell? ⟨b, off + k * 2, none⟩ = some (.int .i32 l[k].1) ∧ W.cell? ⟨b, off + k * 2 + 1, none⟩ = some (.int .i32 l[k].2)) := fun W hW =>
        ⟨(hW.cell (p := ⟨b, off + k * 2, none⟩) hbl).trans (hx k hlt).1, (hW.cell (p := ⟨b, off + k * 2 + 1, none⟩) hbl).trans (hx k hlt).2⟩
      have hin := HX.out.2 l[k] (by simp)
      have htk := take_snoc hlt
      have htl : (l.take k).length ≤ 1000000 := by rw [List.length_take]; omega
      generalize l[k] = r at *
      obtain ⟨r0, r1⟩ := r
      dsimp only at *
      obtain ⟨⟨n1, n2⟩, n3, n4⟩ := hin
      obtain ⟨P, hP⟩ : ∃ P, l.take k = P := ⟨_, rfl⟩
      rw [hP] at HB htk htl ⊢
      have HC : Hid _ := And.intro hcells htk
      clear hx hcells htk hP
      obtain ⟨PL, hPL⟩ : ∃ PL, P.length = PL := ⟨_, rfl⟩
      have HPL : Hid _ := hPL
      rw [hPL] at HB htl ⊢
      clear hPL
      go_upto_region 5 with fail
      have hbd : Below w.heap.size w wr.drew := bdrewN HB.out.2 1
      obtain ⟨k0, k1⟩ := HC.out.1 _ hbd
      have hal : ∀ o, Below w.heap.size w (wr.alloc o).drew := fun o => bdrewN (HB.out.2.trans (((Below.refl _ _).alloc (Nat.le_refl _) o).mono HB.out.2.size)) 1
      have HD : Hid _ := hal
      clear hbd hal
      have i0 : (0 : Int) ≤ (k : Int) := by omega
      have i1 : (k : Int) < (l.length : Int) := by omega
      have c64 : IntKind.i64.wrap r0 = r0 := by rw [IntKind.wrap_i64]; omega
      have c65 : IntKind.i64.wrap r1 = r1 := by rw [IntKind.wrap_i64]; omega
      go_region_held_law (fun W => W.cell? ⟨b, off + k * 2, none⟩ = some (.int .i32 r0) ∧ W.cell? ⟨b, off + k * 2 + 1, none⟩ = some (.int .i32 r1)) (first | with_reducible exact ⟨k0, k1⟩ | with_reducible exact HC.out.1 _ (HD.out _) | with_reducible exact HC.out.1 _ HB7.out | fail)
        (first
          | (refine step_put_d wr .i64 77 33 i58 z58 16 Try.underlying33 hi58 hz0 hzc hz1 hz3 (by decide) (.tmp 11) (.tmp 25) rfl rfl w.heap.size (.slice va PL vc) P rfl HB.out.1 (r0, r1) rfl (by rw [HPL.out]; exact htl) HB.out.2.size ?_; intro v' w7 hown7 hb7 hv7; have HB7 : Hid (Below w.heap.size w w7) := HB.out.2.trans hb7.1; have H7 : Hid _ := And.intro hown7 hv7; clear hown7 hb7 hv7)
          | fail)
      all_goals
        go_wp2_with fail
        go_roundg g
        case measure => omega
        case rel =>
          refine ⟨k + 1, by omega, by simp, ?_, HB7.out⟩
          rw [HC.out.2]
          exact H7.out.1
    · have hkl : k = l.length := by omega
      subst hkl
      rw [List.take_length] at HB ⊢
      go_wp2_with fail
      go_ret
      exact ⟨va, vc, rfl, HB.out.1, HB.out.2⟩
/-- A set of the second telling. -/
abbrev sV (v : Value) : Value := .agg #[v]
def OfsQ (l : List Rg) (w : World) (e : Ending) (w' : World) : Prop := ∃ a c, e = .returned (sV (.slice a l.length c)) ∧ Own .i64 77 w' w.heap.size (.slice a l.length c) l ∧ Below w.heap.size w w'
theorem blk1 {U : World} {X : Nat} {a : Value} {t : TypeId} (hx : U.heap[X]? = some (.cells #[a] t (0, 0))) : U.cell? ⟨X, 0, none⟩ = some a ∧ U.frozen? ⟨X, 0, none⟩ = false := by
  refine ⟨?_, ?_⟩ <;> simp [World.cell?, World.frozen?, hx]
set_option maxHeartbeats 1000000 in
theorem ofs_r (v : Value) (l : List Rg) (w : World) (h : Sl .i32 w v l) (hi32 : In32 l) (hn : l.length ≤ 100000) : Calls Try.prog 19 #[v] w fun e w' => OfsQ l w e w' := by
  obtain ⟨la, lc, rfl, _⟩ := h.len
  have hb0 : Below w.heap.size w (w.alloc (.cells #[.slice none 0 0] 35)) := (Below.refl _ _).alloc (Nat.le_refl _) _
  have q1 := ofr_r _ l _ (h.below hb0) hi32 hn
  have HQ : Hid _ := And.intro q1 (And.intro hb0 (nw_heap w (.cells #[.slice none 0 0] 35)))
  clear q1 hb0 h
  go_enter Try.func19, Try.ntmps19
  go_wp2_with fail
  refine Calls.mono HQ.out.1 ?_
  rintro e w2 ⟨a, c, rfl, hown, hb⟩
  have hx := (hb.block _ (lt_of HQ.out.2.2)).trans HQ.out.2.2
  obtain ⟨c0, f0⟩ := blk1 hx
  have hbb := HQ.out.2.1.trans (hb.mono HQ.out.2.1.size)
  have hne : ∀ j, (Value.slice a l.length c).ownBlock = some j → j ≠ w.heap.size := fun j hj => by have := (row_base hown j hj).1; rw [sza] at this; omega
  have hwn : w.heap.size < w2.heap.size := lt_of hx
  have H2 : Hid _ := And.intro (hown.mono (base' := w.heap.size) (by rw [sza]; omega)) (And.intro hbb (And.intro hx hne))
  clear hown hb hx hbb hne
  go_wp2_with fail
  have hx2 := bset (i := 0) H2.out.2.2.1 (.slice a l.length c)
  simp only [List.setIfInBounds_toArray, List.set_cons_zero] at hx2
  obtain ⟨k0, _⟩ := blk1 hx2
  refine bodyPost_ret (v := sV (.slice a l.length c)) (by simp [results, Try.results19, go_sem, k0]) rfl ⟨a, c, rfl, ?_, H2.out.2.1.setCell (p := ⟨w.heap.size, 0, none⟩) (Nat.le_refl _) _⟩
  exact row_fro H2.out.1 (O := fun j => j = w.heap.size) ((Fro.refl (fun j => j = w.heap.size) w2).set (.inl rfl) _) (fun j hj => H2.out.2.2.2 j hj)
end Go.Proofs.Ythlkbijpphdblaa
namespace Go.Proofs.Ythlkbijpphdblaa
open Go.RowKit
set_option linter.unusedVariables false

set_option maxHeartbeats 4000000 in
theorem same_r (va vb : Value) (a b : List Rg) (w : World) (ha : Sl .i64 w va a) (hb : Sl .i64 w vb b) (hn : a.length ≤ 1000000) (hm : b.length ≤ 1000000) : Calls Try.prog 18 #[sV va, sV vb] w fun e w' => e = .returned (.bool (decide (a = b))) ∧ Below w.heap.size w w' := by
  obtain ⟨xa, ca, rfl, hca⟩ := ha.len
  obtain ⟨xb, cb, rfl, hcb⟩ := hb.len
  obtain ⟨x1, x2, hbW⟩ := box2' w (.cells #[.slice xa a.length ca] 35) (.cells #[.slice xb b.length cb] 35)
  by_cases hl : a.length = b.length
  · have d0 : ((a.length : Int) != (b.length : Int)) = false := by simp [hl]
    obtain ⟨T, hT⟩ : ∃ T, decide (a = b) = T := ⟨_, rfl⟩
    rw [hT]
    have HL : Hid _ := And.intro hl hT
    clear hl hT
    go_enter Try.func18, Try.ntmps18
    go_upto_region 1 with fail
    obtain ⟨W, hW⟩ : ∃ W, (w.alloc (.cells #[.slice xa a.length ca] 35)).alloc (.cells #[.slice xb b.length cb] 35) = W := ⟨_, rfl⟩
    rw [hW] at x1 x2 hbW ⊢
    have hl := HL.out.1
    have HX : Hid _ := And.intro (ha.below hbW) (And.intro (hb.below hbW) (And.intro hl (And.intro HL.out.2 (And.intro hbW (And.intro x1 x2)))))
    obtain ⟨c0, _⟩ := blk1 x1
    obtain ⟨c1, _⟩ := blk1 x2
    clear ha hb hbW hW x1 x2
    obtain ⟨N, hN⟩ : ∃ N, a.length = N := ⟨_, rfl⟩
    rw [← hl] at c1
    rw [hN] at c0 c1 hn hca
    have HN : Hid _ := And.intro hN hl
    rw [← hl, hN] at d0
    clear hm hl hN hcb
    go_wp2_with fail
    clear c0 c1
    go_loopg [5] N (fun g v5 wr => ∃ k : Nat, k + g = N ∧ v5 = .int .i64 (k : Int) ∧ a.take k = b.take k ∧ Below W.heap.size W wr)
    case atStart => exact ⟨0, by omega, rfl, by simp, Below.refl _ _⟩
    case round =>
      obtain ⟨k, hk, rfl, htk, hbl⟩ := hrel
      have HB : Hid _ := And.intro htk hbl
      have y1 := (hbl.block _ (lt_of HX.out.2.2.2.2.2.1)).trans HX.out.2.2.2.2.2.1
      have y2 := (hbl.block _ (lt_of HX.out.2.2.2.2.2.2)).trans HX.out.2.2.2.2.2.2
      obtain ⟨c0, _⟩ := blk1 y1
      obtain ⟨c1, _⟩ := blk1 y2
      rw [HN.out.1] at c0
      rw [← HN.out.2, HN.out.1] at c1
      clear htk hbl y1 y2
      by_cases hlt : k < N
      · obtain ⟨g, rfl⟩ : ∃ g, gk = g + 1 := ⟨gk - 1, by omega⟩
        have hla : k < a.length := by have := HN.out.1; omega
        have hlb : k < b.length := by have := HN.out; omega
        obtain ⟨a', c', e, _, hx⟩ := HX.out.1
        simp only [Value.slice.injEq] at e
        obtain ⟨rfl, hdd, rfl⟩ := e
        clear hdd
        obtain ⟨a'', c'', e, _, hy⟩ := HX.out.2.1
        simp only [Value.slice.injEq] at e
        obtain ⟨rfl, hdd, rfl⟩ := e
        clear hdd
        rcases hx with hx | ⟨ga, oa, rfl, hga, hx⟩
        · rw [hx] at hla; simp at hla
        rcases hy with hy | ⟨gb, ob, rfl, hgb, hy⟩
        · rw [hy] at hlb; simp at hlb
        obtain ⟨q0, q1⟩ := hx k hla
        obtain ⟨q2, q3⟩ := hy k hlb
        have e0 := (HB.out.2.cell (p := ⟨ga, oa + k * 2, none⟩) hga).trans q0
        have e1 := (HB.out.2.cell (p := ⟨ga, oa + k * 2 + 1, none⟩) hga).trans q1
        have e2 := (HB.out.2.cell (p := ⟨gb, ob + k * 2, none⟩) hgb).trans q2
        have e3 := (HB.out.2.cell (p := ⟨gb, ob + k * 2 + 1, none⟩) hgb).trans q3
        have hsa := take_snoc hla
        have hsb := take_snoc hlb
        have hne : a[k] ≠ b[k] → T = false := fun q => by
          rw [← HX.out.2.2.2.1]
          exact decide_eq_false (fun e => q (by subst e; rfl))
        generalize a[k] = r at *
        generalize b[k] = t at *
        obtain ⟨r0, r1⟩ := r
        obtain ⟨t0, t1⟩ := t
        dsimp only at *
        clear q0 q1 q2 q3 hx hy hla hlb
        by_cases q0 : r0 = t0
        · by_cases q1 : r1 = t1
          · subst q0
            subst q1
            have hst : a.take (k + 1) = b.take (k + 1) := by rw [hsa, hsb, HB.out.1]
            have HS : Hid _ := hst
            clear hst hsa hsb hne
            go_wp2_with fail
            go_quiet (fail)
            go_wp2_with fail
            go_roundg g
            case measure => omega
            case rel => exact ⟨k + 1, by omega, by simp, HS.out, bdrewN HB.out.2 _⟩
          · have hf := hne (by simp [q1])
            subst hf
            clear hsa hsb hne
            go_wp2_with fail
            go_quiet (fail)
            go_wp2_with fail
            go_ret
            exact ⟨rfl, HX.out.2.2.2.2.1.trans ((bdrewN HB.out.2 _).mono HX.out.2.2.2.2.1.size)⟩
        · have hf := hne (by simp [q0])
          subst hf
          clear hsa hsb hne
          go_wp2_with fail
          go_quiet (fail)
          go_wp2_with fail
          go_ret
          exact ⟨rfl, HX.out.2.2.2.2.1.trans ((bdrewN HB.out.2 _).mono HX.out.2.2.2.2.1.size)⟩
      · have hab : T = true := by
          rw [← HX.out.2.2.2.1]
          have h1 := HB.out.1
          have h2 := HN.out
          rw [List.take_of_length_le (by omega), List.take_of_length_le (by omega)] at h1
          exact decide_eq_true h1
        subst hab
        go_wp2_with fail
        go_ret
        exact ⟨rfl, HX.out.2.2.2.2.1.trans (HB.out.2.mono HX.out.2.2.2.2.1.size)⟩
  · have d0 : ((a.length : Int) != (b.length : Int)) = true := by simp; omega
    have hne : decide (a = b) = false := decide_eq_false (fun q => hl (by rw [q]))
    rw [hne]
    go_enter Try.func18, Try.ntmps18
    go_upto_region 1 with fail
    obtain ⟨W, hW⟩ : ∃ W, (w.alloc (.cells #[.slice xa a.length ca] 35)).alloc (.cells #[.slice xb b.length cb] 35) = W := ⟨_, rfl⟩
    rw [hW] at x1 x2 hbW ⊢
    obtain ⟨c0, _⟩ := blk1 x1
    obtain ⟨c1, _⟩ := blk1 x2
    have HW : Hid _ := hbW
    clear hW x1 x2 hbW
    go_wp2_with fail
    go_ret
    exact ⟨rfl, HW.out⟩
end Go.Proofs.Ythlkbijpphdblaa
