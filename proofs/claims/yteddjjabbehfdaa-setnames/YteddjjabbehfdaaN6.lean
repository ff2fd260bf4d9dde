/- The second telling: Escape. -/
import Derived.Test.YteddjjabbehfdaaN5
namespace Go.Proofs.Yteddjjabbehfdaa
open Go.RowKit
set_option linter.unusedVariables false

theorem own_lit {k : IntKind} {e : TypeId} {w : World} {g base : Nat} {l : List Rg} {cs : Array Value} (h : w.heap[g]? = some (.cells cs e (0, 0))) (hc : cs = (l.flatMap (ec k)).toArray) (hg : base ≤ g) (hl : l.length ≤ maxLen) : Own k e w base (.slice (some ⟨g, 0, none⟩) l.length l.length) l := by
  subst hc
  refine ⟨ec_len k l, .inr ⟨g, l.length, _, rfl, hg, h, Nat.le_refl _, hl, ?_, ?_⟩⟩
  · rw [List.size_toArray]
    exact ec_len k l
  · show List.take (l.length * 2) (l.flatMap (ec k)) = _
    rw [List.take_of_length_le (Nat.le_of_eq (ec_len k l))]
set_option maxHeartbeats 400000 in
theorem starts_r (w : World) : Calls Try.prog 47 #[] w fun e w' => OfrQ stL w e w' := by
  go_enter Try.func47, Try.ntmps47
  go_wp2_with fail
  go_ret
  exact ⟨_, _, rfl, own_lit (l := stL) (nw_heap w _) rfl (Nat.le_refl _) (by decide), (Below.refl _ _).alloc (Nat.le_refl _) _⟩
theorem wpList_cat {ops : Array Oper} {rest : List Oper} {o : Oper} {a : Act} {Q : Exit → Act → World → Prop} (w : World) (k : IntKind) (e t : TypeId) (i : TypeInfo) (z : Value) (bytes : Nat) (ht : Try.prog.underlying t = some (.slice e)) (hi : Try.prog.info? e = some i) (hz : i.zero = some z) (hzc : z.cells.size = 2) (hz1 : i.size = 2) (hz3 : i.bytes = bytes) (hby : bytes ≤ 16)
    (s x : Operand) (hgd : o.guard = none) (ho : o.op = .call { callee := .builtin .append, args := #[s, x], argTypes := #[t, t] }) (base : Nat) (v u : Value) (l m : List Rg) (hs : a.eval s = v) (hown : Own k e w base v l) (hx : a.eval x = u) (hu : Sl k w u m) (hl : l.length + m.length ≤ 1000000) (hbase : base ≤ w.heap.size)
    (h : ∀ v' w', Own k e w' base v' (l ++ m) → Below base w w' → wpList Try.prog ops Q rest (a.put o.dst v') w') : wpList Try.prog ops Q (o :: rest) a w := by
  obtain ⟨ad, c, rfl, hc⟩ := hu.len
  refine wpList_app w hgd s x t ho base e i z 2 bytes ht hi hz hz1 hz3 hzc (by decide) v l.length (l.flatMap (ec k)) hs hown ad m.length c (m.flatMap (ec k)) hx (ec_len k m) (sl_news hu) (ec_one k m) (by unfold maxLen; omega) (by have : (l.length + m.length) * bytes ≤ 1000000 * 16 := Nat.mul_le_mul hl hby; omega) hbase ?_
  intro v' w' h2 h3 h4
  refine h v' w' ?_ ((Below.refl base w).grown h3 hbase (fun j hj => (row_base hown j hj).1))
  show w'.ownsRow base e 2 v' (l ++ m).length ((l ++ m).flatMap (ec k))
  rw [List.length_append, List.flatMap_append]
  exact h2
set_option maxHeartbeats 1000000 in
theorem resc_115 (w : World) : Calls Try.prog 30 #[.int .i64 115] w fun e w' => ErQ (whL, true) w e w' := by
  obtain ⟨x1, x2, hbW⟩ := box2' w (.cells #[.slice none 0 0] 28) (.cells #[.int .i64 9, .int .i64 10, .int .i64 13, .int .i64 13, .int .i64 32, .int .i64 32] 58)
  have hsl : Sl .i64 ((w.alloc (.cells #[.slice none 0 0] 28)).alloc (.cells #[.int .i64 9, .int .i64 10, .int .i64 13, .int .i64 13, .int .i64 32, .int .i64 32] 58)) (.slice (some ⟨w.heap.size + 1, 0, none⟩) 3 3) [(9, 10), (13, 13), (32, 32)] := sl_lit (l := [(9, 10), (13, 13), (32, 32)]) x2 rfl
  have q1 := rof_r _ _ _ hsl (by simp)
  have HQ : Hid _ := And.intro q1 (And.intro x1 hbW)
  clear q1 x1 x2 hbW hsl
  go_enter Try.func30, Try.ntmps30
  go_wp2_with fail
  refine Calls.mono HQ.out.1 ?_
  rintro e w2 ⟨a, c, rfl, hown2, hb2⟩
  have hs : ofR [(9, 10), (13, 13), (32, 32)] = whL := by decide +kernel
  rw [hs] at hown2 ⊢
  have hx2 := (hb2.block _ (lt_of HQ.out.2.1)).trans HQ.out.2.1
  obtain ⟨c0, f0⟩ := blk1 hx2
  have hwn : w.heap.size < w2.heap.size := lt_of hx2
  have hE := er_end HQ.out.2.1 HQ.out.2.2 hown2 hb2
  have H2 : Hid _ := hE
  clear hown2 hb2 hs hx2 hE
  go_wp2_with fail
  have k0 : (w2.setCell ⟨w.heap.size, 0, none⟩ (.slice a whL.length c)).cell? ⟨w.heap.size, 0, none⟩ = some (.slice a whL.length c) := H2.out.1
  refine bodyPost_ret (v := .tuple #[sV (.slice a (whL : List Rg).length c), .bool true]) (by simp [results, Try.results30, go_sem, k0]) rfl ⟨a, c, rfl, H2.out.2.1, H2.out.2.2⟩
set_option maxHeartbeats 1000000 in
theorem resc_105 (w : World) : Calls Try.prog 30 #[.int .i64 105] w fun e w' => ErQ (stL, true) w e w' := by
  have x0 := nw_heap w (.cells #[.slice none 0 0] 28)
  have b0 : Below w.heap.size w (w.alloc (.cells #[.slice none 0 0] 28)) := (Below.refl _ _).alloc (Nat.le_refl _) _
  have q0 := starts_r (w.alloc (.cells #[.slice none 0 0] 28))
  have H0 : Hid _ := And.intro q0 (And.intro x0 b0)
  clear q0 x0 b0
  go_enter Try.func30, Try.ntmps30
  go_wp2_with fail
  refine Calls.mono H0.out.1 ?_
  rintro e w1 ⟨a1, c1, rfl, hown1, hb1⟩
  have x1 := (hb1.block _ (lt_of H0.out.2.1)).trans H0.out.2.1
  have b1 := H0.out.2.2.trans (hb1.mono H0.out.2.2.size)
  have q1 := rof_r _ _ w1 hown1.sl (by decide)
  have HQ : Hid _ := And.intro q1 (And.intro x1 b1)
  clear q1 x1 b1 hown1 hb1 H0
  go_wp2_with fail
  refine Calls.mono HQ.out.1 ?_
  rintro e w2 ⟨a, c, rfl, hown2, hb2⟩
  have hs : ofR stL = stL := by decide +kernel
  rw [hs] at hown2 ⊢
  have hx2 := (hb2.block _ (lt_of HQ.out.2.1)).trans HQ.out.2.1
  obtain ⟨c0, f0⟩ := blk1 hx2
  have hwn : w.heap.size < w2.heap.size := lt_of hx2
  have hE := er_end HQ.out.2.1 HQ.out.2.2 hown2 hb2
  have H2 : Hid _ := hE
  clear hown2 hb2 hs hx2 hE
  go_wp2_with fail
  have k0 : (w2.setCell ⟨w.heap.size, 0, none⟩ (.slice a stL.length c)).cell? ⟨w.heap.size, 0, none⟩ = some (.slice a stL.length c) := H2.out.1
  refine bodyPost_ret (v := .tuple #[sV (.slice a (stL : List Rg).length c), .bool true]) (by simp [results, Try.results30, go_sem, k0]) rfl ⟨a, c, rfl, H2.out.2.1, H2.out.2.2⟩
set_option maxHeartbeats 2000000 in
theorem resc_99 (w : World) : Calls Try.prog 30 #[.int .i64 99] w fun e w' => ErQ (ptL, true) w e w' := by
  obtain ⟨i58, z58, hi58, hz0, hzc, hz1, hz3⟩ := info_rrp
  have x0 := nw_heap w (.cells #[.slice none 0 0] 28)
  have b0 : Below w.heap.size w (w.alloc (.cells #[.slice none 0 0] 28)) := (Below.refl _ _).alloc (Nat.le_refl _) _
  have q0 := starts_r (w.alloc (.cells #[.slice none 0 0] 28))
  have H0 : Hid _ := And.intro q0 (And.intro x0 b0)
  clear q0 x0 b0
  go_enter Try.func30, Try.ntmps30
  go_wp2_with fail
  refine Calls.mono H0.out.1 ?_
  rintro e w1 ⟨a1, c1, rfl, hown1, hb1⟩
  have x1 := (hb1.block _ (lt_of H0.out.2.1)).trans H0.out.2.1
  have b1 := H0.out.2.2.trans (hb1.mono H0.out.2.2.size)
  have hlt1 := lt_of H0.out.2.1
  have hW : Below w1.heap.size w1 (w1.alloc (.cells #[.int .i64 45, .int .i64 46, .int .i64 48, .int .i64 57, .int .i64 183, .int .i64 183] 58)) := (Below.refl _ _).alloc (Nat.le_refl _) _
  have hsl : Sl .i64 (w1.alloc (.cells #[.int .i64 45, .int .i64 46, .int .i64 48, .int .i64 57, .int .i64 183, .int .i64 183] 58)) (.slice (some ⟨w1.heap.size, 0, none⟩) 3 3) [(45, 46), (48, 57), (183, 183)] := sl_lit (l := [(45, 46), (48, 57), (183, 183)]) (nw_heap _ _) rfl
  have H1 : Hid _ := And.intro (hown1.below hW) (And.intro ((hW.block _ (lt_of x1)).trans x1) (And.intro (b1.trans (hW.mono b1.size)) (And.intro hlt1 (And.intro hsl (Nat.le_trans hb1.size hW.size)))))
  clear x1 b1 hown1 hb1 hlt1 hsl hW
  go_wp2_with (first | (at_builtin; go_loud (refine wpList_cat _ .i64 58 26 i58 z58 16 Try.underlying26 hi58 hz0 hzc hz1 hz3 (by decide) (.tmp 26) (.tmp 30) rfl rfl (w.alloc (.cells #[.slice none 0 0] 28)).heap.size (.slice a1 stL.length c1) (.slice (some ⟨w1.heap.size, 0, none⟩) 3 3) stL [(45, 46), (48, 57), (183, 183)] rfl H1.out.1 rfl H1.out.2.2.2.2.1 (by decide) H1.out.2.2.2.2.2 ?_); intro v' w7 hown7 hb7; obtain ⟨a7, c7, rfl⟩ := own_form hown7; have q1 := rof_r _ _ w7 hown7.sl (by decide); have x7 := (hb7.block _ H1.out.2.2.2.1).trans H1.out.2.1; have b7 := H1.out.2.2.1.trans (hb7.mono (Nat.le_of_lt H1.out.2.2.2.1)); have HQ : Hid _ := And.intro q1 (And.intro x7 b7); clear q1 x7 b7 hown7 hb7))
  refine Calls.mono HQ.out.1 ?_
  rintro e w2 ⟨a, c, rfl, hown2, hb2⟩
  have hs : ofR (stL ++ [(45, 46), (48, 57), (183, 183)]) = ptL := by decide +kernel
  rw [hs] at hown2 ⊢
  have hx2 := (hb2.block _ (lt_of HQ.out.2.1)).trans HQ.out.2.1
  obtain ⟨c0, f0⟩ := blk1 hx2
  have hwn : w.heap.size < w2.heap.size := lt_of hx2
  have hE := er_end HQ.out.2.1 HQ.out.2.2 hown2 hb2
  have H2 : Hid _ := hE
  clear hown2 hb2 hs hx2 hE
  go_wp2_with fail
  have k0 : (w2.setCell ⟨w.heap.size, 0, none⟩ (.slice a ptL.length c)).cell? ⟨w.heap.size, 0, none⟩ = some (.slice a ptL.length c) := H2.out.1
  refine bodyPost_ret (v := .tuple #[sV (.slice a (ptL : List Rg).length c), .bool true]) (by simp [results, Try.results30, go_sem, k0]) rfl ⟨a, c, rfl, H2.out.2.1, H2.out.2.2⟩
set_option maxHeartbeats 1000000 in
theorem resc_100 (w : World) : Calls Try.prog 30 #[.int .i64 100] w fun e w' => ErQ ([(48, 57)], true) w e w' := by
  have x0 := nw_heap w (.cells #[.slice none 0 0] 28)
  have b0 : Below w.heap.size w (w.alloc (.cells #[.slice none 0 0] 28)) := (Below.refl _ _).alloc (Nat.le_refl _) _
  have q0 := rcat_xnd (w.alloc (.cells #[.slice none 0 0] 28))
  have HQ : Hid _ := And.intro q0 (And.intro x0 b0)
  clear q0 x0 b0
  go_enter Try.func30, Try.ntmps30
  go_wp2_with fail
  refine Calls.mono HQ.out.1 ?_
  rintro e w2 ⟨a, c, rfl, hown2, hb2⟩
  have hx2 := (hb2.block _ (lt_of HQ.out.2.1)).trans HQ.out.2.1
  obtain ⟨c0, f0⟩ := blk1 hx2
  have hwn : w.heap.size < w2.heap.size := lt_of hx2
  have hE := er_end HQ.out.2.1 HQ.out.2.2 hown2 hb2
  have H2 : Hid _ := hE
  clear hown2 hb2 hx2 hE
  go_wp2_with fail
  have k0 : (w2.setCell ⟨w.heap.size, 0, none⟩ (.slice a 1 c)).cell? ⟨w.heap.size, 0, none⟩ = some (.slice a 1 c) := H2.out.1
  refine bodyPost_ret (v := .tuple #[sV (.slice a ([(48, 57)] : List Rg).length c), .bool true]) (by simp [results, Try.results30, go_sem, k0]) rfl ⟨a, c, rfl, H2.out.2.1, H2.out.2.2⟩
set_option maxHeartbeats 1000000 in
theorem resc_83 (w : World) : Calls Try.prog 30 #[.int .i64 83] w fun e w' => ErQ (notR 0 whL, true) w e w' := by
  have x0 := nw_heap w (.cells #[.slice none 0 0] 28)
  have b0 : Below w.heap.size w (w.alloc (.cells #[.slice none 0 0] 28)) := (Below.refl _ _).alloc (Nat.le_refl _) _
  have q0 := resc_115 (w.alloc (.cells #[.slice none 0 0] 28))
  have hc : Cn whL := rt0 (by decide +kernel)
  have H0 : Hid _ := And.intro q0 (And.intro x0 (And.intro b0 hc))
  clear q0 x0 b0 hc
  go_enter Try.func30, Try.ntmps30
  go_wp2_with fail
  refine Calls.mono H0.out.1 ?_
  rintro e w1 ⟨a1, c1, rfl, hown1, hb1⟩
  dsimp only at *
  have hW : Below w1.heap.size w1 (w1.alloc (.cells #[.slice a1 (whL : List Rg).length c1] 28)) := (Below.refl _ _).alloc (Nat.le_refl _) _
  have q1 := rnot_r _ _ _ (hown1.sl.below hW) H0.out.2.2.2 (by decide)
  have x1 := (hW.block _ (lt_of ((hb1.block _ (lt_of H0.out.2.1)).trans H0.out.2.1))).trans ((hb1.block _ (lt_of H0.out.2.1)).trans H0.out.2.1)
  have b1 := (H0.out.2.2.1.trans (hb1.mono H0.out.2.2.1.size)).trans (hW.mono (H0.out.2.2.1.trans (hb1.mono H0.out.2.2.1.size)).size)
  have HQ : Hid _ := And.intro q1 (And.intro x1 b1)
  clear q1 x1 b1 hown1 hb1 hW H0
  go_wp2_with fail
  refine Calls.mono HQ.out.1 ?_
  rintro e w2 ⟨a, c, rfl, hown2, hb2⟩
  have hx2 := (hb2.block _ (lt_of HQ.out.2.1)).trans HQ.out.2.1
  obtain ⟨c0, f0⟩ := blk1 hx2
  have hwn : w.heap.size < w2.heap.size := lt_of hx2
  have hE := er_end HQ.out.2.1 HQ.out.2.2 hown2 hb2
  have H2 : Hid _ := hE
  clear hown2 hb2 hx2 hE
  go_wp2_with fail
  have k0 : (w2.setCell ⟨w.heap.size, 0, none⟩ (.slice a (notR 0 whL).length c)).cell? ⟨w.heap.size, 0, none⟩ = some (.slice a (notR 0 whL).length c) := H2.out.1
  refine bodyPost_ret (v := .tuple #[sV (.slice a (notR 0 whL : List Rg).length c), .bool true]) (by simp [results, Try.results30, go_sem, k0]) rfl ⟨a, c, rfl, H2.out.2.1, H2.out.2.2⟩
set_option maxHeartbeats 1000000 in
theorem resc_73 (w : World) : Calls Try.prog 30 #[.int .i64 73] w fun e w' => ErQ (notR 0 stL, true) w e w' := by
  have x0 := nw_heap w (.cells #[.slice none 0 0] 28)
  have b0 : Below w.heap.size w (w.alloc (.cells #[.slice none 0 0] 28)) := (Below.refl _ _).alloc (Nat.le_refl _) _
  have q0 := resc_105 (w.alloc (.cells #[.slice none 0 0] 28))
  have hc : Cn stL := rt0 (by decide +kernel)
  have H0 : Hid _ := And.intro q0 (And.intro x0 (And.intro b0 hc))
  clear q0 x0 b0 hc
  go_enter Try.func30, Try.ntmps30
  go_wp2_with fail
  refine Calls.mono H0.out.1 ?_
  rintro e w1 ⟨a1, c1, rfl, hown1, hb1⟩
  dsimp only at *
  have hW : Below w1.heap.size w1 (w1.alloc (.cells #[.slice a1 (stL : List Rg).length c1] 28)) := (Below.refl _ _).alloc (Nat.le_refl _) _
  have q1 := rnot_r _ _ _ (hown1.sl.below hW) H0.out.2.2.2 (by decide)
  have x1 := (hW.block _ (lt_of ((hb1.block _ (lt_of H0.out.2.1)).trans H0.out.2.1))).trans ((hb1.block _ (lt_of H0.out.2.1)).trans H0.out.2.1)
  have b1 := (H0.out.2.2.1.trans (hb1.mono H0.out.2.2.1.size)).trans (hW.mono (H0.out.2.2.1.trans (hb1.mono H0.out.2.2.1.size)).size)
  have HQ : Hid _ := And.intro q1 (And.intro x1 b1)
  clear q1 x1 b1 hown1 hb1 hW H0
  go_wp2_with fail
  refine Calls.mono HQ.out.1 ?_
  rintro e w2 ⟨a, c, rfl, hown2, hb2⟩
  have hx2 := (hb2.block _ (lt_of HQ.out.2.1)).trans HQ.out.2.1
  obtain ⟨c0, f0⟩ := blk1 hx2
  have hwn : w.heap.size < w2.heap.size := lt_of hx2
  have hE := er_end HQ.out.2.1 HQ.out.2.2 hown2 hb2
  have H2 : Hid _ := hE
  clear hown2 hb2 hx2 hE
  go_wp2_with fail
  have k0 : (w2.setCell ⟨w.heap.size, 0, none⟩ (.slice a (notR 0 stL).length c)).cell? ⟨w.heap.size, 0, none⟩ = some (.slice a (notR 0 stL).length c) := H2.out.1
  refine bodyPost_ret (v := .tuple #[sV (.slice a (notR 0 stL : List Rg).length c), .bool true]) (by simp [results, Try.results30, go_sem, k0]) rfl ⟨a, c, rfl, H2.out.2.1, H2.out.2.2⟩
set_option maxHeartbeats 1000000 in
theorem resc_67 (w : World) : Calls Try.prog 30 #[.int .i64 67] w fun e w' => ErQ (notR 0 ptL, true) w e w' := by
  have x0 := nw_heap w (.cells #[.slice none 0 0] 28)
  have b0 : Below w.heap.size w (w.alloc (.cells #[.slice none 0 0] 28)) := (Below.refl _ _).alloc (Nat.le_refl _) _
  have q0 := resc_99 (w.alloc (.cells #[.slice none 0 0] 28))
  have hc : Cn ptL := rt0 (by decide +kernel)
  have H0 : Hid _ := And.intro q0 (And.intro x0 (And.intro b0 hc))
  clear q0 x0 b0 hc
  go_enter Try.func30, Try.ntmps30
  go_wp2_with fail
  refine Calls.mono H0.out.1 ?_
  rintro e w1 ⟨a1, c1, rfl, hown1, hb1⟩
  dsimp only at *
  have hW : Below w1.heap.size w1 (w1.alloc (.cells #[.slice a1 (ptL : List Rg).length c1] 28)) := (Below.refl _ _).alloc (Nat.le_refl _) _
  have q1 := rnot_r _ _ _ (hown1.sl.below hW) H0.out.2.2.2 (by decide)
  have x1 := (hW.block _ (lt_of ((hb1.block _ (lt_of H0.out.2.1)).trans H0.out.2.1))).trans ((hb1.block _ (lt_of H0.out.2.1)).trans H0.out.2.1)
  have b1 := (H0.out.2.2.1.trans (hb1.mono H0.out.2.2.1.size)).trans (hW.mono (H0.out.2.2.1.trans (hb1.mono H0.out.2.2.1.size)).size)
  have HQ : Hid _ := And.intro q1 (And.intro x1 b1)
  clear q1 x1 b1 hown1 hb1 hW H0
  go_wp2_with fail
  refine Calls.mono HQ.out.1 ?_
  rintro e w2 ⟨a, c, rfl, hown2, hb2⟩
  have hx2 := (hb2.block _ (lt_of HQ.out.2.1)).trans HQ.out.2.1
  obtain ⟨c0, f0⟩ := blk1 hx2
  have hwn : w.heap.size < w2.heap.size := lt_of hx2
  have hE := er_end HQ.out.2.1 HQ.out.2.2 hown2 hb2
  have H2 : Hid _ := hE
  clear hown2 hb2 hx2 hE
  go_wp2_with fail
  have k0 : (w2.setCell ⟨w.heap.size, 0, none⟩ (.slice a (notR 0 ptL).length c)).cell? ⟨w.heap.size, 0, none⟩ = some (.slice a (notR 0 ptL).length c) := H2.out.1
  refine bodyPost_ret (v := .tuple #[sV (.slice a (notR 0 ptL : List Rg).length c), .bool true]) (by simp [results, Try.results30, go_sem, k0]) rfl ⟨a, c, rfl, H2.out.2.1, H2.out.2.2⟩
set_option maxHeartbeats 1000000 in
theorem resc_68 (w : World) : Calls Try.prog 30 #[.int .i64 68] w fun e w' => ErQ (notR 0 [(48, 57)], true) w e w' := by
  have x0 := nw_heap w (.cells #[.slice none 0 0] 28)
  have b0 : Below w.heap.size w (w.alloc (.cells #[.slice none 0 0] 28)) := (Below.refl _ _).alloc (Nat.le_refl _) _
  have q0 := resc_100 (w.alloc (.cells #[.slice none 0 0] 28))
  have hc : Cn [(48, 57)] := rt0 (by decide +kernel)
  have H0 : Hid _ := And.intro q0 (And.intro x0 (And.intro b0 hc))
  clear q0 x0 b0 hc
  go_enter Try.func30, Try.ntmps30
  go_wp2_with fail
  refine Calls.mono H0.out.1 ?_
  rintro e w1 ⟨a1, c1, rfl, hown1, hb1⟩
  dsimp only at *
  have hW : Below w1.heap.size w1 (w1.alloc (.cells #[.slice a1 ([(48, 57)] : List Rg).length c1] 28)) := (Below.refl _ _).alloc (Nat.le_refl _) _
  have q1 := rnot_r _ _ _ (hown1.sl.below hW) H0.out.2.2.2 (by decide)
  have x1 := (hW.block _ (lt_of ((hb1.block _ (lt_of H0.out.2.1)).trans H0.out.2.1))).trans ((hb1.block _ (lt_of H0.out.2.1)).trans H0.out.2.1)
  have b1 := (H0.out.2.2.1.trans (hb1.mono H0.out.2.2.1.size)).trans (hW.mono (H0.out.2.2.1.trans (hb1.mono H0.out.2.2.1.size)).size)
  have HQ : Hid _ := And.intro q1 (And.intro x1 b1)
  clear q1 x1 b1 hown1 hb1 hW H0
  go_wp2_with fail
  refine Calls.mono HQ.out.1 ?_
  rintro e w2 ⟨a, c, rfl, hown2, hb2⟩
  have hx2 := (hb2.block _ (lt_of HQ.out.2.1)).trans HQ.out.2.1
  obtain ⟨c0, f0⟩ := blk1 hx2
  have hwn : w.heap.size < w2.heap.size := lt_of hx2
  have hE := er_end HQ.out.2.1 HQ.out.2.2 hown2 hb2
  have H2 : Hid _ := hE
  clear hown2 hb2 hx2 hE
  go_wp2_with fail
  have k0 : (w2.setCell ⟨w.heap.size, 0, none⟩ (.slice a (notR 0 [(48, 57)]).length c)).cell? ⟨w.heap.size, 0, none⟩ = some (.slice a (notR 0 [(48, 57)]).length c) := H2.out.1
  refine bodyPost_ret (v := .tuple #[sV (.slice a (notR 0 [(48, 57)] : List Rg).length c), .bool true]) (by simp [results, Try.results30, go_sem, k0]) rfl ⟨a, c, rfl, H2.out.2.1, H2.out.2.2⟩
end Go.Proofs.Yteddjjabbehfdaa
