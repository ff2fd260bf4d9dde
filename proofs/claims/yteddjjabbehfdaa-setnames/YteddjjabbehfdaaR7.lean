/- The second telling: Union. -/
import Derived.Test.YteddjjabbehfdaaR6
namespace Go.Proofs.Yteddjjabbehfdaa
open Go.RowKit
set_option linter.unusedVariables false

/-- An append of a whole row, in a region that draws. -/
theorem step_app {ops : Array Oper} {o : Oper} {a : Act} {K : Act → World → Prop} {Q : Exit → Act → World → Prop} {E : Prop} (w : World) (k : IntKind) (e t : TypeId) (i : TypeInfo) (z : Value) (bytes : Nat) (ht : Try.prog.underlying t = some (.slice e)) (hi : Try.prog.info? e = some i) (hz : i.zero = some z) (hzc : z.cells.size = 2) (hz1 : i.size = 2) (hz3 : i.bytes = bytes) (hby : bytes ≤ 16)
    (s x : Operand) (hgd : o.guard = none) (ho : o.op = .call { callee := .builtin .append, args := #[s, x], argTypes := #[t, t] }) (base : Nat) (v u : Value) (l m : List Rg) (hs : a.eval s = v) (hown : Own k e w base v l) (hx : a.eval x = u) (hu : Sl k w u m) (hl : l.length + m.length ≤ 1000000) (hbase : base ≤ w.heap.size)
    (h : ∀ v' w', Own k e w' base v' (l ++ m) → Below base w w' → K (a.put o.dst v') w') : if Region.wanted o (yielded ops a.tmps) = true then Oper.wp Try.prog o a w K Q else E := by
  have hw : Region.wanted o (yielded ops a.tmps) = true := by unfold Region.wanted; rw [hgd]
  rw [if_pos hw]
  obtain ⟨ad, c, rfl, hc⟩ := hu.len
  refine wp_app w s x t ho base e i z 2 bytes ht hi hz hz1 hz3 hzc (by decide) v l.length (l.flatMap (ec k)) hs hown ad m.length c (m.flatMap (ec k)) hx (ec_len k m) (sl_news hu) (ec_one k m) (by unfold maxLen; omega) (by have : (l.length + m.length) * bytes ≤ 1000000 * 16 := Nat.mul_le_mul hl hby; omega) hbase ?_
  intro v' w' h2 h3 h4
  refine h v' w' ?_ ((Below.refl base w).grown h3 hbase (fun j hj => (row_base hown j hj).1))
  show w'.ownsRow base e 2 v' (l ++ m).length ((l ++ m).flatMap (ec k))
  rw [List.length_append, List.flatMap_append]
  exact h2
theorem box3 (w : World) (A B C : Obj) : (((w.alloc A).alloc B).alloc C).heap[w.heap.size]? = some A ∧ (((w.alloc A).alloc B).alloc C).heap[w.heap.size + 1]? = some B ∧ (((w.alloc A).alloc B).alloc C).heap[w.heap.size + 2]? = some C ∧ Below w.heap.size w (((w.alloc A).alloc B).alloc C) := by
  obtain ⟨h1, h2, h3⟩ := box2' w A B
  have hb : Below ((w.alloc A).alloc B).heap.size ((w.alloc A).alloc B) (((w.alloc A).alloc B).alloc C) := (Below.refl _ _).alloc (Nat.le_refl _) _
  refine ⟨(hb.block _ (lt_of h1)).trans h1, (hb.block _ (lt_of h2)).trans h2, ?_, h3.trans (hb.mono h3.size)⟩
  have := nw_heap ((w.alloc A).alloc B) C
  rw [sza, sza] at this
  exact this
set_option maxHeartbeats 4000000 in
theorem runion_r (va vb : Value) (a b : List Rg) (w : World) (ha : Sl .i64 w va a) (hb : Sl .i64 w vb b) (hn : a.length + b.length ≤ 100000) : Calls Try.prog 23 #[sV va, sV vb] w fun e w' => RsQ (ofR (a ++ b)) w e w' := by
  obtain ⟨i58, z58, hi58, hz0, hzc, hz1, hz3⟩ := info_rrp
  obtain ⟨xa, ca, rfl, hca⟩ := ha.len
  obtain ⟨xb, cb, rfl, hcb⟩ := hb.len
  obtain ⟨x1, x2, x3, hbW⟩ := box3 w (.cells #[.slice xa a.length ca] 28) (.cells #[.slice xb b.length cb] 28) (.cells #[.slice none 0 0] 28)
  go_enter Try.func23, Try.ntmps23
  go_upto_region 1 with fail
  obtain ⟨W, hW⟩ : ∃ W, ((w.alloc (.cells #[.slice xa a.length ca] 28)).alloc (.cells #[.slice xb b.length cb] 28)).alloc (.cells #[.slice none 0 0] 28) = W := ⟨_, rfl⟩
  rw [hW] at x1 x2 x3 hbW ⊢
  have hWs : w.heap.size + 2 < W.heap.size := lt_of x3
  have hS : ∀ U, Below (w.heap.size + 2) W U → U.cell? ⟨w.heap.size, 0, none⟩ = some (.slice xa a.length ca) ∧ U.cell? ⟨w.heap.size + 1, 0, none⟩ = some (.slice xb b.length cb) := fun U hU =>
    ⟨(blk1 ((hU.block _ (by omega)).trans x1)).1, (blk1 ((hU.block _ (by omega)).trans x2)).1⟩
  have HS : Hid _ := hS
  have k0 := hS W.drew (bdrewN (Below.refl _ _) 1)
  have hal : ∀ o, Below W.heap.size W (W.alloc o).drew := fun o => bdrewN ((Below.refl _ _).alloc (Nat.le_refl _) o) 1
  have k1 := fun o => hS _ ((hal o).mono (by omega))
  have h00 : Own .i64 58 (W.alloc (.cells #[] 58)).drew W.heap.size (.slice (some ⟨W.heap.size, 0, none⟩) 0 0) [] := by
    refine ⟨rfl, .inr ⟨W.heap.size, 0, #[], rfl, Nat.le_refl _, nw_heap W _, ?_, ?_, ?_, ?_⟩⟩ <;> simp
  have HA : Hid _ := And.intro h00 (And.intro hal k1)
  have HX : Hid _ := And.intro (ha.below hbW) (And.intro (hb.below hbW) (And.intro x3 hbW))
  have HW : Hid _ := hWs
  clear hS ha hb x1 x2 x3 hbW hW h00 hal k1 hWs
  go_region_held_law (fun U => U.cell? ⟨w.heap.size, 0, none⟩ = some (.slice xa a.length ca) ∧ U.cell? ⟨w.heap.size + 1, 0, none⟩ = some (.slice xb b.length cb)) (first | with_reducible exact k0 | with_reducible exact HA.out.2.2 _ | with_reducible exact HS.out _ (HB5.out.2.1) | with_reducible exact HS.out _ HB6.out.2.1 | with_reducible exact HS.out _ HB7.out.2.1 | with_reducible exact HS.out _ (HB7.out.2.1.setCell (Nat.le_refl _) _) | fail)
    (first
      | (refine step_app _ .i64 58 26 i58 z58 16 Try.underlying26 hi58 hz0 hzc hz1 hz3 (by decide) (.tmp 5) (.tmp 7) rfl rfl W.heap.size _ _ [] a rfl HA.out.1 rfl (HX.out.1.below (HA.out.2.1 _)) (by simp; omega) (HA.out.2.1 _).size ?_; intro v5 w5 hown5 hb5; obtain ⟨xa5, ca5, rfl⟩ := own_form hown5; rw [List.nil_append] at hown5; have HB5 : Hid _ := And.intro hown5 (And.intro (((HA.out.2.1 _).trans hb5).mono (Nat.le_of_lt HW.out)) ((HA.out.2.1 _).trans hb5)); clear hown5 hb5)
      | (refine step_app w5 .i64 58 26 i58 z58 16 Try.underlying26 hi58 hz0 hzc hz1 hz3 (by decide) (.tmp 8) (.tmp 10) rfl rfl W.heap.size _ _ a b rfl HB5.out.1 rfl (HX.out.2.1.below HB5.out.2.2) (by omega) HB5.out.2.2.size ?_; intro v6 w6 hown6 hb6; obtain ⟨xa6, ca6, hv6⟩ := own_form hown6; rw [List.length_append] at hv6; subst hv6; have HB6 : Hid _ := And.intro hown6 (And.intro ((HB5.out.2.2.trans hb6).mono (Nat.le_of_lt HW.out)) (HB5.out.2.2.trans hb6)); clear hown6 hb6)
      | (go_at_call 10; refine Calls.mono (rof_r _ (a ++ b) w6 HB6.out.1.sl (by rw [List.length_append]; exact hn)) ?_; rintro e w7 ⟨a7, c7, rfl, hown7, hb7⟩; have HB7 : Hid _ := And.intro hown7 (And.intro ((HB6.out.2.2.trans (hb7.mono HB6.out.2.2.size)).mono (Nat.le_of_lt HW.out)) (HB6.out.2.2.trans (hb7.mono HB6.out.2.2.size))); clear hown7 hb7; have hx7 := (HB7.out.2.2.block _ (lt_of HX.out.2.2.1)).trans HX.out.2.2.1; obtain ⟨y0, y1⟩ := blk1 hx7; have H7 : Hid _ := hx7; clear hx7)
      | fail)
  all_goals
    go_wp2_with fail
    have hx2 := bset (i := 0) H7.out (.slice a7 (ofR (a ++ b)).length c7)
    simp only [List.setIfInBounds_toArray, List.set_cons_zero] at hx2
    obtain ⟨k9, _⟩ := blk1 hx2
    have hbb := HX.out.2.2.2.trans (HB7.out.2.2.mono HX.out.2.2.2.size)
    refine bodyPost_ret (v := sV (.slice a7 (ofR (a ++ b)).length c7)) (by simp [results, Try.results23, go_sem, k9]) rfl ⟨_, _, rfl, ?_, hbb.setCell (p := ⟨w.heap.size + 2, 0, none⟩) (by simp) _⟩
    exact own_set (HB7.out.1.mono (by have := HX.out.2.2.2.size; have := HB6.out.2.2.size; omega)) H7.out (by decide) 0 _
end Go.Proofs.Yteddjjabbehfdaa
