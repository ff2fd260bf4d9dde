/- The program: Both, Minus. -/
import Derived.Test.YthlkbijpphdblaaZ14
import Derived.Deep.RegionHeldLaw
namespace Go.Proofs.Ythlkbijpphdblaa
open Go.RowKit
set_option linter.unusedVariables false

/-- An append of one range, in a region that draws. -/
theorem step_put {ops : Array Oper} {o : Oper} {a : Act} {K : Act → World → Prop} {Q : Exit → Act → World → Prop} {E : Prop} (W : World) (k : IntKind) (e t : TypeId) (i : TypeInfo) (z : Value) (bytes : Nat) (ht : Try.prog.underlying t = some (.slice e)) (hi : Try.prog.info? e = some i) (hz : i.zero = some z) (hzc : z.cells.size = 2) (hz1 : i.size = 2) (hz3 : i.bytes = bytes) (hby : bytes ≤ 16)
    (s x : Operand) (hgd : o.guard = none) (ho : o.op = .call { callee := .builtin .append, args := #[s, x], argTypes := #[t, t] }) (base : Nat) (v : Value) (l : List Rg) (hs : a.eval s = v) (hown : Own k e W base v l) (r : Rg) (hx : a.eval x = .slice (some ⟨W.heap.size, 0, none⟩) 1 1) (hl : l.length ≤ 1000000) (hbase : base ≤ W.heap.size)
    (h : ∀ v' w', Own k e w' base v' (l ++ [r]) → Below base W w' ∧ Fro (fun j => v.ownBlock = some j) W w' → (∃ g cap, v' = .slice (some ⟨g, 0, none⟩) (l ++ [r]).length cap) → K (a.put o.dst v') w') : if Region.wanted o (yielded ops a.tmps) = true then Oper.wp Try.prog o a (W.alloc (.cells #[.int k r.1, .int k r.2] e)) K Q else E := by
  have hb : Below W.heap.size W (W.alloc (.cells #[.int k r.1, .int k r.2] e)) := (Below.refl _ _).alloc (Nat.le_refl _) _
  have hown1 := hown.below hb
  refine step_append_lies (P := Try.prog) _ hgd s x t ho base e i z 2 bytes ht hi hz hz1 hz3 hzc (by decide) v l.length (l.flatMap (ec k)) hs hown1 ⟨W.heap.size, 0, none⟩ 1 1 (ec k r) hx rfl (World.news_of_block (nw_heap _ _)) (by intro u hu; simp [ec] at hu; rcases hu with rfl | rfl <;> rfl) (by decide) (by unfold maxLen; omega) (by have : (l.length + 1) * bytes ≤ 1000001 * 16 := Nat.mul_le_mul (by omega) hby; omega) (by rw [sza]; omega) _ rfl ?_
  intro g2 cap2 w7 hown7 hg7 hat7 hlt7
  refine h _ _ (Own.snoc hown7) ?_ ⟨g2, cap2, by simp⟩
  have hb0 : Below base W (W.alloc (.cells #[.int k r.1, .int k r.2] e)) := hb.mono hbase
  exact ⟨hb0.grown hg7 (by have := hb0.size; omega) (fun j hj => (row_base hown1 j hj).1), (Fro.below hb).trans (Fro.grown hg7 (fun j hj => hj))⟩
theorem step_put_d {ops : Array Oper} {o : Oper} {a : Act} {K : Act → World → Prop} {Q : Exit → Act → World → Prop} {E : Prop} (W : World) (k : IntKind) (e t : TypeId) (i : TypeInfo) (z : Value) (bytes : Nat) (ht : Try.prog.underlying t = some (.slice e)) (hi : Try.prog.info? e = some i) (hz : i.zero = some z) (hzc : z.cells.size = 2) (hz1 : i.size = 2) (hz3 : i.bytes = bytes) (hby : bytes ≤ 16)
    (s x : Operand) (hgd : o.guard = none) (ho : o.op = .call { callee := .builtin .append, args := #[s, x], argTypes := #[t, t] }) (base : Nat) (v : Value) (l : List Rg) (hs : a.eval s = v) (hown : Own k e W base v l) (r : Rg) (hx : a.eval x = .slice (some ⟨W.heap.size, 0, none⟩) 1 1) (hl : l.length ≤ 1000000) (hbase : base ≤ W.heap.size)
    (h : ∀ v' w', Own k e w' base v' (l ++ [r]) → Below base W w' ∧ Fro (fun j => v.ownBlock = some j) W w' → (∃ g cap, v' = .slice (some ⟨g, 0, none⟩) (l ++ [r]).length cap) → K (a.put o.dst v') w') : if Region.wanted o (yielded ops a.tmps) = true then Oper.wp Try.prog o a (W.alloc (.cells #[.int k r.1, .int k r.2] e)).drew K Q else E :=
  step_put W.drew k e t i z bytes ht hi hz hzc hz1 hz3 hby s x hgd ho base v l hs hown r hx hl hbase (fun v' w' h1 h2 h3 => h v' w' h1 ⟨⟨h2.1.os, h2.1.tape, h2.1.output, h2.1.size, h2.1.block⟩, ⟨h2.2.os, h2.2.tape, h2.2.output, h2.2.size, h2.2.block⟩⟩ h3)
/-- A slice less its first. -/
theorem Sl.rest {k : IntKind} {w : World} {g off cap : Nat} {r : Rg} {l : List Rg} (h : Sl k w (.slice (some ⟨g, off, none⟩) (r :: l).length cap) (r :: l)) : Sl k w (.slice (some ⟨g, off + 2, none⟩) l.length (cap - 1)) l := by
  obtain ⟨a, c, e, hc, h⟩ := h
  simp only [Value.slice.injEq] at e
  obtain ⟨rfl, _, rfl⟩ := e
  refine ⟨_, _, rfl, by simp at hc; omega, ?_⟩
  rcases h with h | ⟨g', off', e', hg, h⟩
  · simp at h
  · simp only [Option.some.injEq, Addr.mk.injEq, and_true] at e'
    obtain ⟨rfl, rfl⟩ := e'
    refine .inr ⟨g, off + 2, rfl, hg, fun j hj => ?_⟩
    have := h (j + 1) (by simp; omega)
    rw [show off + (j + 1) * 2 = off + 2 + j * 2 by omega] at this
    simpa using this
theorem Sl.first {k : IntKind} {w : World} {v : Value} {r : Rg} {l : List Rg} (h : Sl k w v (r :: l)) : ∃ g off cap, v = .slice (some ⟨g, off, none⟩) (l.length + 1) cap ∧ l.length + 1 ≤ cap ∧ g < w.heap.size ∧ w.cell? ⟨g, off, none⟩ = some (.int k r.1) ∧ w.cell? ⟨g, off + 1, none⟩ = some (.int k r.2) ∧ Sl k w (.slice (some ⟨g, off + 2, none⟩) l.length (cap - 1)) l := by
  have h0 := h
  obtain ⟨a, c, rfl, hc, h⟩ := h
  rcases h with h | ⟨g, off, rfl, hg, h⟩
  · simp at h
  · have := h 0 (by simp)
    rw [Nat.zero_mul, Nat.add_zero] at this
    exact ⟨g, off, c, rfl, by simpa using hc, hg, this.1, this.2, h0.rest⟩
def BothQ (a b : List Rg) (w : World) (e : Ending) (w' : World) : Prop := ∃ v s, e = .returned v ∧ OfS (bothL (a.length + b.length) a b) s ∧ Own .i32 64 w' w.heap.size v s ∧ s.length ≤ a.length + b.length ∧ Below w.heap.size w w'
/-- Where Both stands. -/
structure B1 (a b : List Rg) (w : World) (m : Nat) (v0 v1 v5 : Value) (wr : World) (A B SH : List Rg) : Prop where
  sa : Sl .i32 w v0 A
  sb : Sl .i32 w v1 B
  eq : SH ++ bothL m A B = bothL (a.length + b.length) a b
  le : A.length + B.length ≤ m
  ln : SH.length + m = a.length + b.length
  own : Own .i32 64 wr w.heap.size v5 SH
  bel : Below w.heap.size w wr
def B2 (a b : List Rg) (w : World) (m : Nat) (v0 v1 v5 : Value) (wr : World) : Prop := ∃ A B SH, B1 a b w m v0 v1 v5 wr A B SH
set_option maxHeartbeats 4000000 in
theorem both_p (va vb : Value) (a b : List Rg) (w : World) (ha : Sl .i32 w va a) (hb : Sl .i32 w vb b) (hn : a.length + b.length ≤ 100000) : Calls Try.prog 97 #[va, vb] w fun e w' => BothQ a b w e w' := by
  obtain ⟨i50, z50, hi50, hz0, hzc, hz1, hz3⟩ := info_rgp
  have H0 : Hid _ := (⟨a, b, [], ⟨ha, hb, rfl, Nat.le_refl _, by simp, Own.nil _ _ _ _, Below.refl _ _⟩⟩ : B2 a b w (a.length + b.length) va vb (.slice none 0 0) w)
  clear ha hb
  go_enter Try.func97, Try.ntmps97
  go_wp2_with fail
  go_loopg [0, 1, 5] (a.length + b.length) (fun g v0 v1 v5 wr => B2 a b w g v0 v1 v5 wr)
  case atStart => exact H0.out
  case round =>
    obtain ⟨A, B, SH, hB⟩ := hrel
    obtain ⟨sa, sc, rfl⟩ := row_form hB.own
    cases A with
    | nil =>
      obtain ⟨xa, xc, rfl, _⟩ := hB.sa.len
      obtain ⟨ya, yc, rfl, _⟩ := hB.sb.len
      have he := hB.eq
      rw [both_nil1, List.append_nil] at he
      have HB : Hid _ := And.intro hB he
      clear hB he
      go_wp2_with fail
      refine Calls.mono (of_p _ SH wr HB.out.1.own.sl (by have := HB.out.1.ln; omega)) ?_
      rintro e w8 ⟨v8, s8, rfl, hof, hown8, hl8, hb8⟩
      rw [HB.out.2] at hof
      have hl9 : s8.length ≤ a.length + b.length := by have := HB.out.1.ln; omega
      have H8 : Hid _ := And.intro hof (And.intro (hown8.mono HB.out.1.bel.size) (And.intro (HB.out.1.bel.trans (hb8.mono HB.out.1.bel.size)) hl9))
      clear hof hown8 hb8 hl8 hl9
      go_wp2_with fail
      go_ret
      exact ⟨_, s8, rfl, H8.out.1, H8.out.2.1, H8.out.2.2.2, H8.out.2.2.1⟩
    | cons r A =>
      cases B with
      | nil =>
        obtain ⟨xa, xc, rfl, _⟩ := hB.sa.len
        obtain ⟨ya, yc, rfl, _⟩ := hB.sb.len
        have he := hB.eq
        rw [both_nil2, List.append_nil] at he
        have HB : Hid _ := And.intro hB he
        clear hB he
        have hAl : ((r :: A).length : Int) = (A.length : Int) + 1 := by simp
        go_wp2_with fail
        refine Calls.mono (of_p _ SH wr HB.out.1.own.sl (by have := HB.out.1.ln; omega)) ?_
        rintro e w8 ⟨v8, s8, rfl, hof, hown8, hl8, hb8⟩
        rw [HB.out.2] at hof
        have hl9 : s8.length ≤ a.length + b.length := by have := HB.out.1.ln; omega
        have H8 : Hid _ := And.intro hof (And.intro (hown8.mono HB.out.1.bel.size) (And.intro (HB.out.1.bel.trans (hb8.mono HB.out.1.bel.size)) hl9))
        clear hof hown8 hb8 hl8 hl9
        go_wp2_with fail
        go_ret
        exact ⟨_, s8, rfl, H8.out.1, H8.out.2.1, H8.out.2.2.2, H8.out.2.2.1⟩
      | cons t B =>
        have hle := hB.le
        have hln := hB.ln
        simp only [List.length_cons] at hle
        obtain ⟨m, rfl⟩ : ∃ m, gk = m + 1 := ⟨gk - 1, by omega⟩
        have he := hB.eq
        rw [bothL, List.append_cons] at he
        obtain ⟨ga, oa, ca, rfl, hca, hga, x0, x1, xr⟩ := hB.sa.first
        obtain ⟨gb, ob, cb, rfl, hcb, hgb, y0, y1, yr⟩ := hB.sb.first
        have hown := hB.own
        have hbel := hB.bel
        have hXX := hB.sa
        have hYY := hB.sb
        have HXX : Hid _ := hXX
        have HY : Hid _ := hYY
        clear hXX hYY
        have HB : Hid _ := And.intro hbel (And.intro hown (And.intro xr (And.intro yr he)))
        obtain ⟨r0, r1⟩ := r
        obtain ⟨t0, t1⟩ := t
        dsimp only at *
        have hcells : ∀ W, Below w.heap.size w W → (W.cell? ⟨ga, oa, none⟩ = some (.int .i32 r0) ∧ W.cell? ⟨ga, oa + 1, none⟩ = some (.int .i32 r1) ∧ W.cell? ⟨gb, ob, none⟩ = some (.int .i32 t0) ∧ W.cell? ⟨gb, ob + 1, none⟩ = some (.int .i32 t1)) := fun W hW =>
          ⟨(hW.cell (p := ⟨ga, oa, none⟩) hga).trans x0, (hW.cell (p := ⟨ga, oa + 1, none⟩) hga).trans x1, (hW.cell (p := ⟨gb, ob, none⟩) hgb).trans y0, (hW.cell (p := ⟨gb, ob + 1, none⟩) hgb).trans y1⟩
        have HCC : Hid _ := hcells
        clear hB xr yr he hown hbel hcells x0 x1 y0 y1
        go_upto_region 3 with fail
        have hbd : Below w.heap.size w wr.drew := bdrewN HB.out.1 1
        have hod : Own .i32 64 wr.drew w.heap.size (.slice sa SH.length sc) SH := HB.out.2.1
        obtain ⟨k0, k1, k2, k3⟩ := HCC.out _ hbd
        have hal : ∀ o, Below w.heap.size w (wr.alloc o).drew := fun o => bdrewN (HB.out.1.trans (((Below.refl _ _).alloc (Nat.le_refl _) o).mono HB.out.1.size)) 1
        have HD : Hid _ := And.intro hbd (And.intro hod hal)
        clear hbd hod hal
        have hshl : SH.length ≤ 1000000 := by omega
        go_region_held_law (fun W => W.cell? ⟨ga, oa, none⟩ = some (.int .i32 r0) ∧ W.cell? ⟨ga, oa + 1, none⟩ = some (.int .i32 r1) ∧ W.cell? ⟨gb, ob, none⟩ = some (.int .i32 t0) ∧ W.cell? ⟨gb, ob + 1, none⟩ = some (.int .i32 t1)) (first | with_reducible exact ⟨k0, k1, k2, k3⟩ | with_reducible exact HCC.out _ (HD.out.2.2 _) | with_reducible exact HCC.out _ HB7.out | fail)
          (first
            | (refine step_put_d wr .i32 64 23 i50 z50 8 Try.underlying23 hi50 hz0 hzc hz1 hz3 (by decide) (.tmp 14) (.tmp 34) rfl rfl w.heap.size (.slice sa SH.length sc) SH rfl HB.out.2.1 (max r0 t0, min r1 t1) rfl hshl HB.out.1.size ?_; intro v' w7 hown7 hb7 hv7; have HB7 : Hid (Below w.heap.size w w7) := HB.out.1.trans hb7.1; have H7 : Hid _ := And.intro hown7 hv7; clear hown7 hb7 hv7)
            | fail)
        all_goals
          obtain ⟨g7, c7, hv7⟩ := H7.out.2
          rw [List.length_append, List.length_singleton] at hv7
          subst hv7
          clear k0 k1 k2 k3
          obtain ⟨k0, k1, k2, k3⟩ := HCC.out _ HB7.out
          by_cases hlt : r1 < t1
          · have d1 : decide (r1 < t1) = true := by simpa using hlt
            have he := HB.out.2.2.2.2
            rw [if_pos hlt] at he
            have HE : Hid _ := he
            clear he
            have hdm : ¬ t1 < r1 := by omega
            go_wp2_with fail
            go_quiet (fail)
            by_cases hc1 : ca = 1
            · have hA : A = [] := List.eq_nil_of_length_eq_zero (by omega)
              subst hA
              subst hc1
              go_wp2_with fail
              go_roundg m
              case measure => omega
              case rel => exact ⟨[], (t0, t1) :: B, SH ++ [(max r0 t0, min r1 t1)], ⟨⟨_, _, rfl, Nat.zero_le _, .inl rfl⟩, HY.out, HE.out, by simp only [List.length_cons, List.length_nil] at *; omega, by simp only [List.length_append, List.length_singleton]; omega, H7.out.1, bdrewN HB7.out _⟩⟩
            · go_wp2_with fail
              go_roundg m
              case measure => omega
              case rel => exact ⟨A, (t0, t1) :: B, SH ++ [(max r0 t0, min r1 t1)], ⟨HB.out.2.2.1, HY.out, HE.out, by simp only [List.length_cons]; omega, by simp only [List.length_append, List.length_singleton]; omega, H7.out.1, bdrewN HB7.out _⟩⟩
          · have d1 : decide (r1 < t1) = false := by simpa using hlt
            have he := HB.out.2.2.2.2
            rw [if_neg hlt] at he
            have HE : Hid _ := he
            clear he
            go_wp2_with fail
            go_quiet (fail)
            by_cases hc1 : cb = 1
            · have hA : B = [] := List.eq_nil_of_length_eq_zero (by omega)
              subst hA
              subst hc1
              go_wp2_with fail
              go_roundg m
              case measure => omega
              case rel => exact ⟨(r0, r1) :: A, [], SH ++ [(max r0 t0, min r1 t1)], ⟨HXX.out, ⟨_, _, rfl, Nat.zero_le _, .inl rfl⟩, HE.out, by simp only [List.length_cons, List.length_nil] at *; omega, by simp only [List.length_append, List.length_singleton]; omega, H7.out.1, bdrewN HB7.out _⟩⟩
            · go_wp2_with fail
              go_roundg m
              case measure => omega
              case rel => exact ⟨(r0, r1) :: A, B, SH ++ [(max r0 t0, min r1 t1)], ⟨HXX.out, HB.out.2.2.2.1, HE.out, by simp only [List.length_cons]; omega, by simp only [List.length_append, List.length_singleton]; omega, H7.out.1, bdrewN HB7.out _⟩⟩
end Go.Proofs.Ythlkbijpphdblaa
