/- The program: with. -/
import Derived.Test.YthlkbijpphdblaaZ6
namespace Go.Proofs.Ythlkbijpphdblaa
open Go.RowKit
set_option linter.unusedVariables false

theorem info_rg : (Try.prog.info? 64).map (fun i => (i.zero.map fun z => z.cells.size, i.size, i.bytes)) = some (some 2, 2, 8) := by kernel_rfl
theorem info_rgp : ∃ i z, Try.prog.info? 64 = some i ∧ i.zero = some z ∧ z.cells.size = 2 ∧ i.size = 2 ∧ i.bytes = 8 := by
  have := info_rg
  cases h : Try.prog.info? 64 with
  | none => rw [h] at this; simp at this
  | some i =>
    rw [h] at this
    simp at this
    obtain ⟨⟨z, h1, h2⟩, h3, h4⟩ := this
    exact ⟨i, z, rfl, h1, h2, h3, h4⟩
/-- A row of ranges of one's own. -/
def Own (k : IntKind) (e : TypeId) (w : World) (base : Nat) (v : Value) (l : List Rg) : Prop := w.ownsRow base e 2 v l.length (l.flatMap (ec k))
theorem Own.sl {k : IntKind} {e : TypeId} {w : World} {base : Nat} {v : Value} {l : List Rg} (h : Own k e w base v l) : Sl k w v l := row_sl h
theorem Own.below {k : IntKind} {e : TypeId} {w w' : World} {base : Nat} {v : Value} {l : List Rg} (h : Own k e w base v l) (hb : Below w.heap.size w w') : Own k e w' base v l := row_below h hb
theorem Own.nil (k : IntKind) (e : TypeId) (w : World) (base : Nat) : Own k e w base (.slice none 0 0) [] := ⟨rfl, .inl ⟨rfl, rfl⟩⟩
theorem Own.snoc {k : IntKind} {e : TypeId} {w : World} {base : Nat} {v : Value} {l : List Rg} {r : Rg} (h : w.ownsRow base e 2 v (l.length + 1) (l.flatMap (ec k) ++ ec k r)) : Own k e w base v (l ++ [r]) := by
  unfold Own
  rw [List.length_append, List.length_singleton, List.flatMap_append]
  simpa using h
theorem own_block {k : IntKind} {e : TypeId} {w : World} {base : Nat} {v : Value} {l : List Rg} (h : Own k e w base v l) (hl : l ≠ []) : ∃ g cap cur, v = .slice (some ⟨g, 0, none⟩) l.length cap ∧ base ≤ g ∧ w.heap[g]? = some (.cells cur e (0, 0)) ∧ cur.size = cap * 2 ∧ l.length ≤ cap ∧ cur.toList.take (l.length * 2) = l.flatMap (ec k) ∧ cap ≤ maxLen := by
  obtain ⟨h1, h2⟩ := h
  rcases h2 with ⟨rfl, hn⟩ | ⟨g, cap, cur, rfl, h3, h4, h5, h6, h7, h8⟩
  · exact absurd (List.eq_nil_of_length_eq_zero hn) hl
  · exact ⟨g, cap, cur, rfl, h3, h4, h7, h5, h8, h6⟩
theorem own_last {k : IntKind} {e : TypeId} {w : World} {base g cap : Nat} {t : List Rg} {q : Rg} (h : Own k e w base (.slice (some ⟨g, 0, none⟩) (t ++ [q]).length cap) (t ++ [q])) (x : Int) : Own k e (w.setCell ⟨g, t.length * 2 + 1, none⟩ (.int k x)) base (.slice (some ⟨g, 0, none⟩) (t ++ [q]).length cap) (t ++ [(q.1, x)]) := by
  obtain ⟨g', cap', cur, e1, hb, hg, hs, hc, ht, hm⟩ := own_block h (by simp)
  simp only [Value.slice.injEq, Option.some.injEq, Addr.mk.injEq, and_true, true_and] at e1
  obtain ⟨rfl, rfl⟩ := e1
  have hl : (t ++ [(q.1, x)]).length = (t ++ [q]).length := by simp
  have hl2 : (t ++ [q]).length = t.length + 1 := by simp
  refine ⟨by rw [ec_len], .inr ⟨g, cap, _, by rw [hl], hb, bset hg _, by rw [hl]; exact hc, hm, by simp [hs], ?_⟩⟩
  rw [hl]
  have e2 : (cur.setIfInBounds (t.length * 2 + 1) (.int k x)).toList = cur.toList.set (t.length * 2 + 1) (.int k x) := by simp
  rw [e2, List.take_set, ht, List.flatMap_append, List.flatMap_append]
  have e3 : (t.flatMap (ec k)).length = t.length * 2 := ec_len k t
  rw [List.set_append_right _ _ (by omega), e3, show t.length * 2 + 1 - t.length * 2 = 1 by omega]
  simp [ec]
theorem own_cells {k : IntKind} {e : TypeId} {w : World} {base g cap : Nat} {l : List Rg} {n : Nat} (h : Own k e w base (.slice (some ⟨g, 0, none⟩) n cap) l) (j : Nat) (hj : j < l.length) : w.cell? ⟨g, j * 2, none⟩ = some (.int k l[j].1) ∧ w.cell? ⟨g, j * 2 + 1, none⟩ = some (.int k l[j].2) ∧ w.frozen? ⟨g, j * 2, none⟩ = false ∧ w.frozen? ⟨g, j * 2 + 1, none⟩ = false := by
  obtain ⟨a, cap', e1, _, h2⟩ := h.sl
  obtain ⟨g', cap2, cur, e2, hb, hg, hs, hc, ht, hm⟩ := own_block h (by intro q; rw [q] at hj; simp at hj)
  simp only [Value.slice.injEq, Option.some.injEq, Addr.mk.injEq, and_true] at e1 e2
  obtain ⟨rfl, rfl, rfl⟩ := e1
  obtain ⟨rfl, _, rfl⟩ := e2
  rcases h2 with h2 | ⟨g3, off, e3, _, h2⟩
  · rw [h2] at hj; simp at hj
  · simp only [Option.some.injEq, Addr.mk.injEq, and_true] at e3
    obtain ⟨rfl, rfl⟩ := e3
    have := h2 j hj
    rw [Nat.zero_add] at this
    refine ⟨this.1, this.2, ?_, ?_⟩ <;> simp [World.frozen?, hg]
theorem blk2 {U : World} {X : Nat} {a b : Value} {t : TypeId} (hx : U.heap[X]? = some (.cells #[a, b] t (0, 0))) : (U.cell? ⟨X, 0, none⟩ = some a ∧ U.cell? ⟨X, 1, none⟩ = some b) ∧ U.frozen? ⟨X, 0, none⟩ = false ∧ U.frozen? ⟨X, 1, none⟩ = false := by
  refine ⟨⟨?_, ?_⟩, ?_, ?_⟩ <;> simp [World.cell?, World.frozen?, hx]
/-- An append of one range. -/
theorem wpList_put {ops : Array Oper} {rest : List Oper} {o : Oper} {a : Act} {Q : Exit → Act → World → Prop} (W : World) (k : IntKind) (e t : TypeId) (i : TypeInfo) (z : Value) (bytes : Nat) (ht : Try.prog.underlying t = some (.slice e)) (hi : Try.prog.info? e = some i) (hz : i.zero = some z) (hzc : z.cells.size = 2) (hz1 : i.size = 2) (hz3 : i.bytes = bytes) (hby : bytes ≤ 16)
    (s x : Operand) (hgd : o.guard = none) (ho : o.op = .call { callee := .builtin .append, args := #[s, x], argTypes := #[t, t] }) (base : Nat) (v : Value) (l : List Rg) (hs : a.eval s = v) (hown : Own k e W base v l) (r : Rg) (hx : a.eval x = .slice (some ⟨W.heap.size, 0, none⟩) 1 1) (hl : l.length ≤ 1000000) (hbase : base ≤ W.heap.size)
    (h : ∀ v' w', Own k e w' base v' (l ++ [r]) → Below base W w' ∧ Fro (fun j => v.ownBlock = some j) W w' → (∃ g cap, v' = .slice (some ⟨g, 0, none⟩) (l ++ [r]).length cap) → wpList Try.prog ops Q rest (a.put o.dst v') w') : wpList Try.prog ops Q (o :: rest) a (W.alloc (.cells #[.int k r.1, .int k r.2] e)) := by
  have hb : Below W.heap.size W (W.alloc (.cells #[.int k r.1, .int k r.2] e)) := (Below.refl _ _).alloc (Nat.le_refl _) _
  have hown1 := hown.below hb
  refine wpList_append_lies (P := Try.prog) _ hgd s x t ho base e i z 2 bytes ht hi hz hz1 hz3 hzc (by decide) v l.length (l.flatMap (ec k)) hs hown1 ⟨W.heap.size, 0, none⟩ 1 1 (ec k r) hx rfl (World.news_of_block (nw_heap _ _)) (by intro u hu; simp [ec] at hu; rcases hu with rfl | rfl <;> rfl) (by decide) (by unfold maxLen; omega) (by have : (l.length + 1) * bytes ≤ 1000001 * 16 := Nat.mul_le_mul (by omega) hby; omega) (by rw [sza]; omega) _ rfl ?_
  intro g2 cap2 w7 hown7 hg7 hat7 hlt7
  refine h _ _ (Own.snoc hown7) ?_ ⟨g2, cap2, by simp⟩
  have hb0 : Below base W (W.alloc (.cells #[.int k r.1, .int k r.2] e)) := hb.mono hbase
  exact ⟨hb0.grown hg7 (by have := hb0.size; omega) (fun j hj => (row_base hown1 j hj).1), (Fro.below hb).trans (Fro.grown hg7 (fun j hj => hj))⟩
set_option maxHeartbeats 2000000 in
theorem with_p (base : Nat) (v : Value) (s : List Rg) (r : Rg) (w : World) (h : Own .i32 64 w base v s) (hc : Cn s) (hn : s.length ≤ 1000000) (hbase : base ≤ w.heap.size) : Calls Try.prog 51 #[v, rV r] w fun e w' => ∃ v', e = .returned v' ∧ Own .i32 64 w' base v' (wthL s r) ∧ Below base w w' := by
  obtain ⟨i50, z50, hi50, hz0, hzc, hz1, hz3⟩ := info_rgp
  obtain ⟨r0, r1⟩ := r
  have hbox : Below w.heap.size w (w.alloc (.cells #[.int .i32 r0, .int .i32 r1] 64)) := (Below.refl _ _).alloc (Nat.le_refl _) _
  rcases snoc_cases s with rfl | ⟨t, q, rfl⟩
  · rw [wth_nil]
    obtain ⟨va, vc, rfl⟩ := row_form h
    have HX : Hid _ := And.intro h hbox
    clear h hbox
    go_enter Try.func51, Try.ntmps51
    go_wp2_with fail
    go_quiet (fail)
    go_upto_region 3 with fail
    obtain ⟨W, hW⟩ : ∃ W, (w.alloc (.cells #[.int .i32 r0, .int .i32 r1] 64)).drewN nq = W := ⟨_, rfl⟩
    rw [hW]
    have hbW : Below w.heap.size w W := by rw [← hW]; exact bdrewN HX.out.2 nq
    have hx : W.heap[w.heap.size]? = some (.cells #[.int .i32 r0, .int .i32 r1] 64 (0, 0)) := by rw [← hW]; exact nw_heap _ _
    obtain ⟨⟨c0, c1⟩, _, _⟩ := blk2 hx
    clear hx
    have HW : Hid _ := And.intro hbW (HX.out.1.below hbW)
    clear hW hbW
    go_wp2_with (first | (at_builtin; go_loud (refine wpList_put W .i32 64 24 i50 z50 8 Try.underlying24 hi50 hz0 hzc hz1 hz3 (by decide) (.tmp 22) (.tmp 24) rfl rfl base (.slice va 0 vc) [] rfl HW.out.2 (r0, r1) rfl (by simp) (by have := HW.out.1.size; omega) ?_); intro v' w7 hown7 hb7 hv7; have H7 : Hid _ := And.intro hown7 hb7; clear hown7 hb7; obtain ⟨g7, c7, rfl⟩ := hv7))
    go_ret
    exact ⟨_, rfl, H7.out.1, (HW.out.1.mono hbase).trans H7.out.2.1⟩
  · rw [wth_snoc]
    obtain ⟨g, cap, cur, rfl, hgb, hgc, hcs, hlc, hct, hcm⟩ := own_block h (by simp)
    obtain ⟨n1, n2, n3, n4⟩ := own_cells h t.length (by simp)
    simp only [List.getElem_concat_length] at n1 n2
    have hq := hc.ok q (by simp)
    obtain ⟨q0, q1⟩ := q
    dsimp only at *
    obtain ⟨hq0, hq1, hq2⟩ := hq
    have hq2' : q1 ≤ 1114111 := hq2
    clear hq2
    have hgl := lt_of hgc
    have hN : (t ++ [(q0, q1)]).length = t.length + 1 := by simp
    have hn' : t.length + 1 ≤ 1000000 := by omega
    have HX : Hid _ := And.intro h (And.intro hbox (And.intro hN (And.intro hgb hlc)))
    clear h hbox hct hcs hgc hc hlc hgb
    obtain ⟨N, hNN⟩ : ∃ N, (t ++ [(q0, q1)]).length = N := ⟨_, rfl⟩
    have hN1 : N = t.length + 1 := by omega
    clear hN
    rw [hNN]
    have HN : Hid _ := hNN
    clear hNN hn
    subst hN1
    have d0 : decide ((t.length : Int) < 0) = false := by simp
    have d00 : (0 : Int) ≤ (t.length : Int) := by omega
    have d01 : (t.length : Int) < ((t.length + 1 : Nat) : Int) := by omega
    by_cases c : q1 + 1 < r0
    · rw [if_pos c]
      have d1 : decide (q1 + 1 < r0) = true := by simpa using c
      go_enter Try.func51, Try.ntmps51
      go_upto_region 2 with fail
      obtain ⟨W0, hW0⟩ : ∃ W, w.alloc (.cells #[.int .i32 r0, .int .i32 r1] 64) = W := ⟨_, rfl⟩
      rw [hW0]
      have hbW : Below w.heap.size w W0 := by rw [← hW0]; exact HX.out.2.1
      have hx : W0.heap[w.heap.size]? = some (.cells #[.int .i32 r0, .int .i32 r1] 64 (0, 0)) := by rw [← hW0]; exact nw_heap _ _
      obtain ⟨⟨c0, c1⟩, c2, c3⟩ := blk2 hx
      have m1 := (hbW.cell (p := ⟨g, t.length * 2, none⟩) hgl).trans n1
      have m2 := (hbW.cell (p := ⟨g, t.length * 2 + 1, none⟩) hgl).trans n2
      have m4 := (hbW.frozen (p := ⟨g, t.length * 2 + 1, none⟩) hgl).trans n4
      have HW0 : Hid _ := And.intro hbW hx
      clear hW0 hbW hx n1 n2 n3 n4
      go_quiet (fail)
      go_upto_region 3 with fail
      obtain ⟨W, hW⟩ : ∃ W, W0.drewN nq = W := ⟨_, rfl⟩
      rw [hW]
      have hbW : Below w.heap.size w W := by rw [← hW]; exact bdrewN HW0.out.1 nq
      have hx : W.heap[w.heap.size]? = some (.cells #[.int .i32 r0, .int .i32 r1] 64 (0, 0)) := by rw [← hW]; exact HW0.out.2
      clear c0 c1 c2 c3 m1 m2 m4
      obtain ⟨⟨c0, c1⟩, _, _⟩ := blk2 hx
      clear hx
      have hown := HX.out.1.below hbW
      rw [HN.out] at hown
      have HW : Hid _ := And.intro hbW hown
      clear hW hbW hown
      go_wp2_with (first | (at_builtin; refine wpList_put W .i32 64 24 i50 z50 8 Try.underlying24 hi50 hz0 hzc hz1 hz3 (by decide) (.tmp 22) (.tmp 24) rfl rfl base (.slice (some ⟨g, 0, none⟩) (t.length + 1) cap) (t ++ [(q0, q1)]) rfl HW.out.2 (r0, r1) rfl (by rw [HN.out]; omega) (by have := HW.out.1.size; omega) ?_; intro v' w7 hown7 hb7 hv7; have H7 : Hid _ := And.intro hown7 hb7; clear hown7 hb7; obtain ⟨g7, c7, rfl⟩ := hv7))
      go_ret
      exact ⟨_, rfl, by simpa using H7.out.1, (HW.out.1.mono hbase).trans H7.out.2.1⟩
    · rw [if_neg c]
      have d1 : decide (q1 + 1 < r0) = false := by simpa using c
      go_enter Try.func51, Try.ntmps51
      go_upto_region 2 with fail
      obtain ⟨W0, hW0⟩ : ∃ W, w.alloc (.cells #[.int .i32 r0, .int .i32 r1] 64) = W := ⟨_, rfl⟩
      rw [hW0]
      have hbW : Below w.heap.size w W0 := by rw [← hW0]; exact HX.out.2.1
      have hx : W0.heap[w.heap.size]? = some (.cells #[.int .i32 r0, .int .i32 r1] 64 (0, 0)) := by rw [← hW0]; exact nw_heap _ _
      obtain ⟨⟨c0, c1⟩, c2, c3⟩ := blk2 hx
      have m1 := (hbW.cell (p := ⟨g, t.length * 2, none⟩) hgl).trans n1
      have m2 := (hbW.cell (p := ⟨g, t.length * 2 + 1, none⟩) hgl).trans n2
      have m4 := (hbW.frozen (p := ⟨g, t.length * 2 + 1, none⟩) hgl).trans n4
      have HW0 : Hid _ := And.intro hbW hx
      clear hW0 hbW hx n1 n2 n3 n4
      go_quiet (fail)
      go_upto_region 4 with fail
      obtain ⟨W, hW⟩ : ∃ W, W0.drewN nq = W := ⟨_, rfl⟩
      rw [hW]
      have hbW : Below w.heap.size w W := by rw [← hW]; exact bdrewN HW0.out.1 nq
      have hx : W.drew.heap[w.heap.size]? = some (.cells #[.int .i32 r0, .int .i32 r1] 64 (0, 0)) := by rw [← hW]; exact HW0.out.2
      have k2 : W.drew.cell? ⟨g, t.length * 2 + 1, none⟩ = some (.int .i32 q1) := by rw [← hW]; exact m2
      have k4 : W.drew.frozen? ⟨g, t.length * 2 + 1, none⟩ = false := by rw [← hW]; exact m4
      have hown := HX.out.1.below hbW
      rw [HN.out] at hown
      have HW : Hid _ := And.intro hbW hown
      clear c0 c1 c2 c3 m1 m2 m4 hW hbW hown
      obtain ⟨⟨c0, c1⟩, _, _⟩ := blk2 hx
      clear hx
      go_region
      all_goals
        go_wp2_with fail
        go_ret
        have hl := own_last (x := max q1 r1) (w := W.drew) (by rw [HN.out]; exact HW.out.2)
        rw [HN.out] at hl
        exact ⟨_, rfl, hl, (HW.out.1.mono hbase).trans ((bdrewN (Below.refl _ _) 1).setCell (p := ⟨g, t.length * 2 + 1, none⟩) HX.out.2.2.2.1 _)⟩
end Go.Proofs.Ythlkbijpphdblaa
