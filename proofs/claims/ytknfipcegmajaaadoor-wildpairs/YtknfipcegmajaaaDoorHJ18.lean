/- Joined: HR6, HR7, HR8, HR9, HR10, HR11, HS4. -/
import Derived.Test.YtknfipcegmajaaaDoorHJ17
import Derived.Deep.RegionHeldLaw
import Derived.Laws.CopyOwn
namespace Go.Proofs.YtknfipcegmajaaaDoor
open Go.RowKit
set_option linter.unusedVariables false
set_option linter.unusedSimpArgs false

theorem step_app {P : Program} (w : World) {ops : Array Oper} {o : Oper} {a : Act} {K : Act → World → Prop} {Q : Exit → Act → World → Prop} {E : Prop} (hgd : o.guard = none) (s x : Operand) (t : TypeId)
    (ho : o.op = .call { callee := .builtin .append, args := #[s, x], argTypes := #[t, t] })
    (base : Nat) (e : TypeId) (i : TypeInfo) (z : Value) (size bytes : Nat) (ht : P.underlying t = some (.slice e)) (hi : P.info? e = some i) (hz : i.zero = some z)
    (hsize : i.size = size) (hby : i.bytes = bytes) (hzs : z.cells.size = size) (hsz : 0 < size)
    (v : Value) (n : Nat) (xs : List Value) (hs : a.eval s = v) (hown : w.ownsRow base e size v n xs)
    (ad : Option Addr) (m c : Nat) (news : List Value) (hx : a.eval x = .slice ad m c) (hl : news.length = m * size) (hsrc : m = 0 ∨ ∃ ad', ad = some ad' ∧ ∀ j u, news[j]? = some u → w.cell? (ad'.add j) = some u) (h1 : ∀ u ∈ news, u.oneCell' = true)
    (h63 : n + m ≤ maxLen) (hbytes : (n + m) * bytes ≤ 140737488355328) (hbase : base ≤ w.heap.size)
    (h : ∀ v' w', w'.ownsRow base e size v' (n + m) (xs ++ news) → w.grownBy w' v.ownBlock → (v'.ownBlock = v.ownBlock ∨ v'.ownBlock = some w.heap.size) → K (a.put o.dst v') w') : if Region.wanted o (yielded ops a.tmps) = true then Oper.wp P o a w K Q else E := by
  have hw : Region.wanted o (yielded ops a.tmps) = true := by simp [Region.wanted, hgd]
  rw [if_pos hw]
  exact wp_app w s x t ho base e i z size bytes ht hi hz hsize hby hzs hsz v n xs hs hown ad m c news hx hl hsrc h1 h63 hbytes hbase h
theorem filt_snoc (l : List Tx) (p : Tx → Bool) (k : Nat) (h : k < l.length) : (l.take (k + 1)).filter p = (l.take k).filter p ++ (if p l[k] = true then [l[k]] else []) := by
  rw [take_snoc h, List.filter_append]
  congr 1
  by_cases g : p l[k] = true <;> simp [g]
/-- The loop's variable, its row. -/
structure FlI (U : World) (X : Nat) (p : Int) (l : List Tx) (v : Value) (W : World) : Prop where
  blk : W.heap[X]? = some (.cells #[.int .i64 3, .string ⟨#[]⟩, v, .int .i64 p] 29 (0, 0))
  own : OwS W U.heap.size v l
  fro : Fro (fun k => k = X) U W
theorem FlI.below {U W W' : World} {X : Nat} {p : Int} {l : List Tx} {v : Value} (h : FlI U X p l v W) (hb : Below W.heap.size W W') : FlI U X p l v W' :=
  ⟨(hb.block _ (lt_of h.blk)).trans h.blk, row_below h.own hb, h.fro.trans (Fro.below hb)⟩
theorem FlI.mid {U W W1 W' : World} {X : Nat} {p : Int} {l : List Tx} {v : Value} (h : FlI U X p l v W) (hX : X < U.heap.size) (hb : Below W.heap.size W W1) (hg : W1.grownBy W' v.ownBlock) : W'.heap[X]? = some (.cells #[.int .i64 3, .string ⟨#[]⟩, v, .int .i64 p] 29 (0, 0)) := by
  have hne : v.ownBlock ≠ some X := fun e => by have := (row_base h.own X e).1; omega
  exact (Fro.grown hg (fun k q => q) (O := fun k => v.ownBlock = some k)).at (h.below hb).blk hne
/-- One text more. -/
theorem FlI.put {U W W1 W' : World} {X : Nat} {p : Int} {l : List Tx} {v v' : Value} {x : Tx} (h : FlI U X p l v W) (hX : X < U.heap.size) (hb : Below W.heap.size W W1) (ho : W'.ownsRow U.heap.size 9 1 v' (l.length + 1) (tc l ++ [.string (sB x)])) (hg : W1.grownBy W' v.ownBlock) :
    FlI U X p (l ++ [x]) v' (W'.setCell ⟨X, 2, none⟩ v') := by
  have h1 := h.below hb
  have hne : v.ownBlock ≠ some X := fun e => by have := (row_base h.own X e).1; omega
  have hf : Fro (fun k => v.ownBlock = some k) W1 W' := Fro.grown hg fun k q => q
  have hX' := hf.at h1.blk hne
  have hf2 : Fro (fun k => k = X) U W' := h1.fro.trans' hf fun i hi q => by have := (row_base h.own i q).1; omega
  refine ⟨bset (i := 2) hX' v', ?_, hf2.set (.inl rfl) _⟩
  have hv := row_base ho
  have hr : (W'.setCell ⟨X, 2, none⟩ v').ownsRow U.heap.size 9 1 v' (l.length + 1) (tc l ++ [.string (sB x)]) := row_fro ho ((Fro.refl (fun k => k = X) W').set (.inl rfl) _) fun k hk e => by have := (hv k hk).1; omega
  unfold OwS
  rw [tc_app, List.length_append]
  exact hr
theorem w4_facts (w : World) (a b c d : Obj) : (((w.alloc a).alloc b).alloc c).alloc d = (((w.alloc a).alloc b).alloc c).alloc d ∧ ((((w.alloc a).alloc b).alloc c).alloc d).heap[w.heap.size]? = some a ∧ ((((w.alloc a).alloc b).alloc c).alloc d).heap[w.heap.size + 1]? = some b ∧ ((((w.alloc a).alloc b).alloc c).alloc d).heap[w.heap.size + 1 + 1]? = some c ∧ ((((w.alloc a).alloc b).alloc c).alloc d).heap[w.heap.size + 1 + 1 + 1]? = some d ∧ Below w.heap.size w ((((w.alloc a).alloc b).alloc c).alloc d) :=
  ⟨rfl, nw_below (nw_below (nw_below (nw_heap _ _))), nw_below (nw_below (nw_at (sza _ _) _)), nw_below (nw_at (sza2 _ _ _) _), nw_at (by rw [sza, sza, sza]) _, (bel3 w a b c).alloc (by rw [sza, sza, sza]; omega) _⟩
/-- The result's cells written behind a call: its text is the empty one, or its row is. -/
theorem set4_resR {W : World} {X : Nat} {v : Value} {l : List Tx} (x y z u : Value) (h : TxR W v l) (hX : W.heap[X]? = some (.cells #[.int .i64 0, .string ⟨#[]⟩, .slice none 0 0, .int .i64 0] 29 (0, 0))) (hy : l = [] ∨ y = .string ⟨#[]⟩) : TxR ((((W.setCell ⟨X, 0, none⟩ x).setCell ⟨X, 1, none⟩ y).setCell ⟨X, 2, none⟩ z).setCell ⟨X, 3, none⟩ u) v l := by
  obtain ⟨a, cap, rfl, hc, h⟩ := h
  refine ⟨a, cap, rfl, hc, ?_⟩
  by_cases h0 : l = []
  · exact .inl h0
  · rcases h with h | ⟨g, off, rfl, hg, h⟩
    · exact absurd h h0
    · refine .inr ⟨g, off, rfl, by simpa [World.setCell] using hg, fun j hj => ?_⟩
      by_cases hne : g = X
      · subst hne
        have hy' : y = .string ⟨#[]⟩ := hy.resolve_left h0
        have h1 := h j hj
        have h2 := set4_heap x y z u hX
        obtain ⟨k, hk⟩ : ∃ k, off + j = k := ⟨_, rfl⟩
        rw [hk] at h1 ⊢
        simp only [World.cell?, hX] at h1
        simp only [World.cell?, h2]
        rcases (by omega : k = 0 ∨ k = 1 ∨ k = 2 ∨ k = 3 ∨ 4 ≤ k) with rfl | rfl | rfl | rfl | hk4
        · simp at h1
        · rw [← h1, hy']; rfl
        · simp at h1
        · simp at h1
        · have : (#[.int .i64 0, .string ⟨#[]⟩, .slice none 0 0, .int .i64 0] : Array Value)[k]? = none := Array.getElem?_eq_none (by simpa using hk4)
          rw [this] at h1
          simp at h1
      · have hh : ((((W.setCell ⟨X, 0, none⟩ x).setCell ⟨X, 1, none⟩ y).setCell ⟨X, 2, none⟩ z).setCell ⟨X, 3, none⟩ u).heap[g]? = W.heap[g]? := by
          rw [Below.heap_setCell _ _ _ _ (by exact hne), Below.heap_setCell _ _ _ _ (by exact hne), Below.heap_setCell _ _ _ _ (by exact hne), Below.heap_setCell _ _ _ _ (by exact hne)]
        rw [cell_of hh (h j hj)]
set_option maxRecDepth 8000 in
set_option maxHeartbeats 4000000 in
theorem filter_p (A B : Wd) (p : Int) (va vb : Value) (w : World) (ha : WdV w va A) (hb : WdV w vb B) (la : A.sp.length < 1000) (lb : B.sp.length < 1000) :
    Calls Tryd.prog 35 #[va, vb, .int .i64 p] w fun e w' => ∃ v', e = .returned v' ∧ WdV w' v' ⟨3, [], A.sp.filter (rallows B), p⟩ ∧ Below w.heap.size w w' := by
  obtain ⟨i0, hi0, hz0, hz1, hz2⟩ := info_sp
  obtain ⟨sa, rfl, ha⟩ := ha
  obtain ⟨pa, ca, rfl, ha2⟩ := ha.len
  obtain ⟨sb, rfl, hb⟩ := hb
  obtain ⟨pb, cb, rfl, hb2⟩ := hb.len
  obtain ⟨_, hxa, hxb, hxr, hxv, hb0⟩ := w4_facts w (bxR A (.slice pa A.sp.length ca)) (bxR B (.slice pb B.sp.length cb)) (bxR Wd.zero (.slice none 0 0)) (.cells #[.int .i64 3, .string ⟨#[]⟩, .slice none 0 0, .int .i64 p] 29)
  have HX : Hid _ := And.intro hxa (And.intro hxb (And.intro hxr hxv))
  have HR : Hid _ := And.intro ha (And.intro hb hb0)
  clear hxa hxb hxr hxv hb0 ha hb
  go_enter Tryd.func35, Tryd.ntmps35
  go_wp2_with fail
  have eU : ((((w.alloc (bxR A (.slice pa A.sp.length ca))).alloc (bxR B (.slice pb B.sp.length cb))).alloc (bxR Wd.zero (.slice none 0 0))).alloc (.cells #[.int .i64 3, .string ⟨#[]⟩, .slice none 0 0, .int .i64 p] 29)) = ((((w.alloc (.cells #[.int .i64 A.how, .string (sB A.nt), .slice pa A.sp.length ca, .int .i64 A.pr] 29)).alloc (.cells #[.int .i64 B.how, .string (sB B.nt), .slice pb B.sp.length cb, .int .i64 B.pr] 29)).alloc (.cells #[.int .i64 0, .string ⟨#[]⟩, .slice none 0 0, .int .i64 0] 29)).alloc (.cells #[.int .i64 3, .string ⟨#[]⟩, .slice none 0 0, .int .i64 p] 29)) := rfl
  rw [eU] at HX HR
  clear eU
  generalize ((((w.alloc (.cells #[.int .i64 A.how, .string (sB A.nt), .slice pa A.sp.length ca, .int .i64 A.pr] 29)).alloc (.cells #[.int .i64 B.how, .string (sB B.nt), .slice pb B.sp.length cb, .int .i64 B.pr] 29)).alloc (.cells #[.int .i64 0, .string ⟨#[]⟩, .slice none 0 0, .int .i64 0] 29)).alloc (.cells #[.int .i64 3, .string ⟨#[]⟩, .slice none 0 0, .int .i64 p] 29)) = U at HX HR ⊢
  have HK : Hid (∀ W, Fro (fun k => k = w.heap.size + 1 + 1 + 1) U W → (W.cell? ⟨w.heap.size, 2, none⟩ = some (.slice pa A.sp.length ca) ∧ W.cell? ⟨w.heap.size + 1, 0, none⟩ = some (.int .i64 B.how) ∧ W.cell? ⟨w.heap.size + 1, 1, none⟩ = some (.string (sB B.nt)) ∧ W.cell? ⟨w.heap.size + 1, 2, none⟩ = some (.slice pb B.sp.length cb) ∧ W.cell? ⟨w.heap.size + 1, 3, none⟩ = some (.int .i64 B.pr)) ∧ W.heap[w.heap.size + 1 + 1]? = some (.cells #[.int .i64 0, .string ⟨#[]⟩, .slice none 0 0, .int .i64 0] 29 (0, 0)) ∧ Below w.heap.size w W) := fun W hW => by
    have h1 := hW.at HX.out.1 (by omega)
    have h2 := hW.at HX.out.2.1 (by omega)
    have h3 := hW.at HX.out.2.2.1 (by omega)
    exact ⟨⟨cell_blk h1 rfl, cell_blk h2 rfl, cell_blk h2 rfl, cell_blk h2 rfl, cell_blk h2 rfl⟩, h3, HR.out.2.2.trans (hW.toBelow HR.out.2.2.size (fun i hi => by omega))⟩
  have hI0 : FlI U (w.heap.size + 1 + 1 + 1) p [] (.slice none 0 0) U := ⟨HX.out.2.2.2, OwS.nil _ _, Fro.refl _ _⟩
  have HI0 : Hid _ := hI0
  clear hI0
  have hXl := lt_of HX.out.2.2.2
  have HXl : Hid _ := hXl
  clear hXl
  generalize hnn : A.sp.length = n at la ha2 HX HR HK ⊢
  have Hn : Hid (A.sp.length = n) := hnn
  clear hnn
  go_loopg [8] n (fun g v8 wr => ∃ (k : Nat) (v : Value), k + g = n ∧ v8 = .int .i64 (k : Int) ∧ FlI U (w.heap.size + 1 + 1 + 1) p ((A.sp.take k).filter (rallows B)) v wr)
  case atStart => exact ⟨0, _, by omega, rfl, HI0.out⟩
  case round =>
    obtain ⟨k, v, hk, rfl, hI⟩ := hrel
    obtain ⟨ya, yc, rfl⟩ := row_form hI.own
    obtain ⟨⟨a2, b0, b1, b2, b3⟩, _⟩ := HK.out wr hI.fro
    have hfl : ((A.sp.take k).filter (rallows B)).length ≤ n := by
      refine Nat.le_trans (List.length_filter_le _ _) ?_
      rw [List.length_take]; omega
    have HI : Hid _ := hI
    clear hI
    by_cases hlt : k < n
    · obtain ⟨gg, rfl⟩ : ∃ gg, gk = gg + 1 := ⟨gk - 1, by omega⟩
      have hkl : k < A.sp.length := by rw [Hn.out]; exact hlt
      obtain ⟨g0, off, rfl, hg0, hat⟩ := tx_at HR.out.1 (by omega)
      have HE : Hid (∀ W, Below w.heap.size w W → W.cell? ⟨g0, off + k, none⟩ = some (.string (sB (A.sp[k]'hkl)))) := fun W hW => (hW.cell (p := ⟨g0, off + k, none⟩) hg0).trans (hat k hkl)
      have hsn := filt_snoc A.sp (rallows B) k hkl
      obtain ⟨x, hx⟩ : ∃ x, A.sp[k] = x := ⟨_, rfl⟩
      rw [hx] at HE hsn
      have e0 := HE.out wr (HK.out wr HI.out.fro).2.2
      obtain ⟨P, hP⟩ : ∃ P, (A.sp.take k).filter (rallows B) = P := ⟨_, rfl⟩
      rw [hP] at HI hsn hfl
      have HS : Hid _ := hsn
      clear hat hx hsn hP
      have HB : Hid (Below wr.heap.size wr wr.drew) := (Below.refl _ _).drew
      have HW0 : Hid (∀ W, Below wr.heap.size wr W → Fro (fun k => k = w.heap.size + 1 + 1 + 1) U W) := fun W hW => HI.out.fro.trans (Fro.below hW)
      go_upto_region 5 with fail
      go_region_held3 (fun W => W.cell? ⟨w.heap.size, 2, none⟩ = some (.slice (some ⟨g0, off, none⟩) n ca) ∧ W.cell? ⟨w.heap.size + 1, 0, none⟩ = some (.int .i64 B.how) ∧ W.cell? ⟨w.heap.size + 1, 1, none⟩ = some (.string (sB B.nt)) ∧ W.cell? ⟨w.heap.size + 1, 2, none⟩ = some (.slice pb B.sp.length cb) ∧ W.cell? ⟨w.heap.size + 1, 3, none⟩ = some (.int .i64 B.pr) ∧ W.cell? ⟨g0, off + k, none⟩ = some (.string (sB x))) (first | exact ⟨a2, b0, b1, b2, b3, e0⟩ | go_keep) (first
        | (go_at_call 20; have hq := rallows_p B x (wdV B (.slice pb B.sp.length cb)) _ ⟨_, rfl, HR.out.2.1.below (HK.out _ (HW0.out _ HB.out)).2.2⟩ (by omega); (with_reducible refine Calls.mono hq ?_); clear hq; rintro e w4 ⟨rfl, hb4⟩; have hbb := HB.out.trans (hb4.mono HB.out.size); clear HB a2 b0 b1 b2 b3 e0; obtain ⟨⟨a2, b0, b1, b2, b3⟩, _⟩ := HK.out _ (HW0.out _ hbb); have e0 := HE.out _ (HK.out _ (HW0.out _ hbb)).2.2; have HB : Hid _ := hbb; clear hbb hb4))
      all_goals
        have hI4 := HI.out.below HB.out
        clear HI HW0 HB
        have HI : Hid _ := hI4
        obtain ⟨⟨y0, y1, y2, y3⟩, f0, f1, f2, f3⟩ := blk4 hI4.blk
        clear hI4
        by_cases hr : rallows B x = true
        · rw [hr]
          have hs := HS.out
          rw [if_pos hr] at hs
          have HS' : Hid _ := hs
          clear hs HS
          have hal : ∀ o, Below w4.heap.size w4 ((w4.alloc o).drew) := fun o => (bel1 _ _).drew
          have hal2 : ∀ o, Below w4.heap.size w4 (w4.alloc o) := fun o => bel1 _ _
          have y2d : ∀ o, (w4.alloc o).cell? ⟨w.heap.size + 1 + 1 + 1, 2, none⟩ = some (.slice ya P.length yc) := fun o => ((hal2 o).cell (p := ⟨w.heap.size + 1 + 1 + 1, 2, none⟩) (lt_of HI.out.blk)).trans y2
          have HAL : Hid _ := And.intro hal hal2
          clear hal hal2 y0 y1 y3 b0 b1 b2 b3
          go_upto_region 6 with fail
          go_region_law (first
            | (refine step_app ((w4.alloc (.cells #[.string (sB x)] 9)).drew) rfl (.tmp 26) (.tmp 32) 23 rfl U.heap.size 9 i0 (.string ⟨#[]⟩) 1 16 Tryd.underlying23 hi0 hz0 hz1 hz2 rfl (by decide) (.slice ya P.length yc) P.length (tc P) rfl (row_below HI.out.own (HAL.out.1 _)) (some ⟨w4.heap.size, 0, none⟩) 1 1 [.string (sB x)] rfl rfl (.inr ⟨_, rfl, World.news_of_block (nw_heap w4 _)⟩) (by simp [Value.oneCell']) (by unfold maxLen; omega) (by omega) (by have := HI.out.fro.size; have := (HAL.out.1 (.cells #[.string (sB x)] 9)).size; omega) ?_; intro v7 w7 hown hgr hob; obtain ⟨a7, c7, rfl⟩ := row_form hown; have hX7 := FlI.mid HI.out HXl.out (HAL.out.1 _) hgr; have hn := FlI.put HI.out HXl.out (HAL.out.1 _) hown hgr; have HN : Hid _ := hn; obtain ⟨⟨_, _, z2, _⟩, _, _, g2, _⟩ := blk4 hX7; clear hn hX7 hown hgr hob y2 y2d)
            | (refine step_app (w4.alloc (.cells #[.string (sB x)] 9)) rfl (.tmp 26) (.tmp 32) 23 rfl U.heap.size 9 i0 (.string ⟨#[]⟩) 1 16 Tryd.underlying23 hi0 hz0 hz1 hz2 rfl (by decide) (.slice ya P.length yc) P.length (tc P) rfl (row_below HI.out.own (HAL.out.2 _)) (some ⟨w4.heap.size, 0, none⟩) 1 1 [.string (sB x)] rfl rfl (.inr ⟨_, rfl, World.news_of_block (nw_heap w4 _)⟩) (by simp [Value.oneCell']) (by unfold maxLen; omega) (by omega) (by have := HI.out.fro.size; have := (HAL.out.2 (.cells #[.string (sB x)] 9)).size; omega) ?_; intro v7 w7 hown hgr hob; obtain ⟨a7, c7, rfl⟩ := row_form hown; have hX7 := FlI.mid HI.out HXl.out (HAL.out.2 _) hgr; have hn := FlI.put HI.out HXl.out (HAL.out.2 _) hown hgr; have HN : Hid _ := hn; obtain ⟨⟨_, _, z2, _⟩, _, _, g2, _⟩ := blk4 hX7; clear hn hX7 hown hgr hob y2 y2d)
            | fail)
          all_goals
            go_wp2_with fail
            go_roundg gg
            case measure => omega
            case rel => exact ⟨k + 1, _, by omega, by go_num, by rw [HS'.out]; exact HN.out⟩
        · have hr' : rallows B x = false := by simpa using hr
          have hs := HS.out
          rw [if_neg hr, List.append_nil] at hs
          have HS' : Hid _ := hs
          clear hs HS
          rw [hr']
          go_wp2_with fail
          go_roundg gg
          case measure => omega
          case rel => exact ⟨k + 1, _, by omega, by go_num, by rw [HS'.out]; exact HI.out⟩
    · have hkn : k = n := by omega
      subst hkn
      have htk : A.sp.take k = A.sp := List.take_of_length_le (by rw [Hn.out]; exact Nat.le_refl _)
      rw [htk] at HI hfl
      obtain ⟨P, hP⟩ : ∃ P, A.sp.filter (rallows B) = P := ⟨_, rfl⟩
      rw [hP] at HI hfl
      have HPq : Hid _ := hP
      obtain ⟨⟨y0, y1, y2, y3⟩, f0, f1, f2, f3⟩ := blk4 HI.out.blk
      have hk3 := HK.out wr HI.out.fro
      obtain ⟨⟨c0, c1, c2, c3⟩, g0, g1, g2, g3⟩ := blk4 hk3.2.1
      have HE : Hid _ := And.intro hk3.2 HI.out.own.tx
      clear hk3 hP htk b0 b1 b2 b3
      go_wp2_with fail
      refine ret_rw (X := w.heap.size + 1 + 1) Tryd.results35 rfl rfl ⟨_, set4_heap _ _ _ _ HE.out.1.1, rfl, ?_⟩
      rw [HPq.out]
      exact ⟨_, rfl, ⟨_, rfl, set4_resR _ _ _ _ HE.out.2 HE.out.1.1 (.inr rfl)⟩, set4_bel _ _ _ _ HE.out.1.2 (by omega)⟩
end Go.Proofs.YtknfipcegmajaaaDoor
namespace Go.Proofs.YtknfipcegmajaaaDoor
open Go.RowKit
set_option linter.unusedVariables false
set_option linter.unusedSimpArgs false

set_option maxRecDepth 8000 in
set_option maxHeartbeats 4000000 in
theorem rsame_p (A B : Wd) (va vb : Value) (w : World) (ha : WdV w va A) (hb : WdV w vb B) (la : A.sp.length < 1000) (lb : B.sp.length < 1000) :
    Calls Tryd.prog 24 #[va, vb] w fun e w' => e = .returned (.bool (rsame A B)) ∧ Below w.heap.size w w' := by
  obtain ⟨sa, rfl, ha⟩ := ha
  obtain ⟨pa, ca, rfl, ha2⟩ := ha.len
  obtain ⟨sb, rfl, hb⟩ := hb
  obtain ⟨pb, cb, rfl, hb2⟩ := hb.len
  by_cases hp : A.pr = B.pr
  · have ev : rsame A B = (rsub A B && rsub B A) := by unfold rsame; rw [decide_eq_true hp]; rfl
    rw [ev]
    have d : (A.pr == B.pr) = true := by simpa using hp
    clear hp ev
    have hxa : ((w.alloc (bxR A (.slice pa A.sp.length ca))).alloc (bxR B (.slice pb B.sp.length cb))).heap[w.heap.size]? = some (bxR A (.slice pa A.sp.length ca)) := nw_below (nw_heap _ _)
    have hxb : ((w.alloc (bxR A (.slice pa A.sp.length ca))).alloc (bxR B (.slice pb B.sp.length cb))).heap[w.heap.size + 1]? = some (bxR B (.slice pb B.sp.length cb)) := nw_at (sza _ _) _
    have hb0 : Below w.heap.size w ((w.alloc (bxR A (.slice pa A.sp.length ca))).alloc (bxR B (.slice pb B.sp.length cb))) := bel2 _ _ _
    have HX : Hid _ := And.intro hxa hxb
    have HR : Hid _ := And.intro (ha.below hb0) (And.intro (hb.below hb0) hb0)
    clear hxa hxb hb0 ha hb
    have eU : ((w.alloc (bxR A (.slice pa A.sp.length ca))).alloc (bxR B (.slice pb B.sp.length cb))) = ((w.alloc (.cells #[.int .i64 A.how, .string (sB A.nt), .slice pa A.sp.length ca, .int .i64 A.pr] 29)).alloc (.cells #[.int .i64 B.how, .string (sB B.nt), .slice pb B.sp.length cb, .int .i64 B.pr] 29)) := rfl
    rw [eU] at HX HR
    clear eU
    go_enter Tryd.func24, Tryd.ntmps24
    go_upto_region 1 with fail
    generalize ((w.alloc (.cells #[.int .i64 A.how, .string (sB A.nt), .slice pa A.sp.length ca, .int .i64 A.pr] 29)).alloc (.cells #[.int .i64 B.how, .string (sB B.nt), .slice pb B.sp.length cb, .int .i64 B.pr] 29)) = U at HX HR ⊢
    obtain ⟨⟨a0, a1, a2, a3⟩, _⟩ := blk4 HX.out.1
    obtain ⟨⟨b0, b1, b2, b3⟩, _⟩ := blk4 HX.out.2
    by_cases h1 : rsub A B = true
    · go_wp2_with (first
        | (go_at_call 22; have hq := rsub_p A B (wdV A (.slice pa A.sp.length ca)) (wdV B (.slice pb B.sp.length cb)) _ ⟨_, rfl, HR.out.1⟩ ⟨_, rfl, HR.out.2.1⟩ la lb; rw [h1] at hq; (with_reducible refine Calls.mono hq ?_); clear hq; rintro e w1 ⟨rfl, hb1⟩; have HB1 : Hid _ := hb1; obtain ⟨⟨a0, a1, a2, a3⟩, _⟩ := blk4 ((hb1.block _ (lt_of HX.out.1)).trans HX.out.1); obtain ⟨⟨b0, b1, b2, b3⟩, _⟩ := blk4 ((hb1.block _ (lt_of HX.out.2)).trans HX.out.2); clear hb1)
        | (go_at_call 22; have hq := rsub_p B A (wdV B (.slice pb B.sp.length cb)) (wdV A (.slice pa A.sp.length ca)) _ ⟨_, rfl, HR.out.2.1.below HB1.out⟩ ⟨_, rfl, HR.out.1.below HB1.out⟩ lb la; (with_reducible refine Calls.mono hq ?_); clear hq; rintro e w2 ⟨rfl, hb2'⟩; have HB2 : Hid _ := HB1.out.trans (hb2'.mono HB1.out.size); clear hb2'))
      all_goals
        go_ret
        exact ⟨ret_bool (by simp [h1]), HR.out.2.2.trans (HB2.out.mono HR.out.2.2.size)⟩
    · have h1' : rsub A B = false := by simpa using h1
      go_wp2_with (first
        | (go_at_call 22; have hq := rsub_p A B (wdV A (.slice pa A.sp.length ca)) (wdV B (.slice pb B.sp.length cb)) _ ⟨_, rfl, HR.out.1⟩ ⟨_, rfl, HR.out.2.1⟩ la lb; rw [h1'] at hq; (with_reducible refine Calls.mono hq ?_); clear hq; rintro e w1 ⟨rfl, hb1⟩; have HB1 : Hid _ := hb1; obtain ⟨⟨a0, a1, a2, a3⟩, _⟩ := blk4 ((hb1.block _ (lt_of HX.out.1)).trans HX.out.1); obtain ⟨⟨b0, b1, b2, b3⟩, _⟩ := blk4 ((hb1.block _ (lt_of HX.out.2)).trans HX.out.2); clear hb1))
      all_goals
        go_ret
        exact ⟨ret_bool (by simp [h1']), HR.out.2.2.trans (HB1.out.mono HR.out.2.2.size)⟩
  · have ev : rsame A B = false := by unfold rsame; rw [decide_eq_false hp]; rfl
    have d : (A.pr == B.pr) = false := by simpa using hp
    rw [ev]
    clear ha hb
    go_enter Tryd.func24, Tryd.ntmps24
    go_wp2_with fail
    go_ret
    exact ⟨rfl, bel2 _ _ _⟩
end Go.Proofs.YtknfipcegmajaaaDoor
namespace Go.Proofs.YtknfipcegmajaaaDoor
open Go.RowKit
set_option linter.unusedVariables false
set_option linter.unusedSimpArgs false

set_option maxRecDepth 8000 in
set_option maxHeartbeats 4000000 in
theorem rboth_p (A B : Wd) (va vb : Value) (w : World) (ha : WdV w va A) (hb : WdV w vb B) (la : A.sp.length < 1000) (lb : B.sp.length < 1000) :
    Calls Tryd.prog 16 #[va, vb] w fun e w' => WbQ (rboth A B) w e w' := by
  obtain ⟨sa, rfl, ha⟩ := ha
  obtain ⟨pa, ca, rfl, ha2⟩ := ha.len
  obtain ⟨sb, rfl, hb⟩ := hb
  obtain ⟨pb, cb, rfl, hb2⟩ := hb.len
  have HR : Hid _ := And.intro ha hb
  clear ha hb
  by_cases h1 : A.how = 1
  · have ev : rboth A B = ({ B with pr := A.pr }, true) := by unfold rboth; rw [if_pos h1]
    rw [ev]
    go_enter Tryd.func16, Tryd.ntmps16
    go_wp2_with fail
    refine ret_r2 (X := w.heap.size + 1 + 1) Tryd.results16 rfl rfl ⟨_, nw_at (sza2 _ _ _) _, rfl, ?_⟩
    exact ⟨_, rfl, ⟨_, rfl, TxR.below HR.out.2 (bel3 _ _ _ _)⟩, bel3 _ _ _ _⟩
  have d1 : (A.how == 1) = false := by simpa using h1
  by_cases h2 : B.how = 1
  · have ev : rboth A B = (A, true) := by unfold rboth; rw [if_neg h1, if_pos h2]
    rw [ev]
    go_enter Tryd.func16, Tryd.ntmps16
    go_wp2_with fail
    refine ret_r2 (X := w.heap.size + 1 + 1) Tryd.results16 rfl rfl ⟨_, nw_at (sza2 _ _ _) _, rfl, ?_⟩
    exact ⟨_, rfl, ⟨_, rfl, TxR.below HR.out.1 (bel3 _ _ _ _)⟩, bel3 _ _ _ _⟩
  have d2 : (B.how == 1) = false := by simpa using h2
  have hb0 : Below w.heap.size w (((w.alloc (bxR A (.slice pa A.sp.length ca))).alloc (bxR B (.slice pb B.sp.length cb))).alloc (bxR Wd.zero (.slice none 0 0))) := bel3 _ _ _ _
  have hxr : (((w.alloc (bxR A (.slice pa A.sp.length ca))).alloc (bxR B (.slice pb B.sp.length cb))).alloc (bxR Wd.zero (.slice none 0 0))).heap[w.heap.size + 1 + 1]? = some (.cells #[.int .i64 0, .string ⟨#[]⟩, .slice none 0 0, .int .i64 0] 29 (0, 0)) := nw_at (sza2 _ _ _) _
  have eU : (((w.alloc (bxR A (.slice pa A.sp.length ca))).alloc (bxR B (.slice pb B.sp.length cb))).alloc (bxR Wd.zero (.slice none 0 0))) = (((w.alloc (.cells #[.int .i64 A.how, .string (sB A.nt), .slice pa A.sp.length ca, .int .i64 A.pr] 29)).alloc (.cells #[.int .i64 B.how, .string (sB B.nt), .slice pb B.sp.length cb, .int .i64 B.pr] 29)).alloc (.cells #[.int .i64 0, .string ⟨#[]⟩, .slice none 0 0, .int .i64 0] 29)) := rfl
  rw [eU] at hb0 hxr
  clear eU
  have HX : Hid _ := And.intro hb0 hxr
  clear hb0 hxr
  by_cases h3 : A.how = 3
  · have d3 : (A.how == 3) = true := by simpa using h3
    have ev : rboth A B = (⟨3, [], A.sp.filter (rallows B), A.pr⟩, true) := by unfold rboth; rw [if_neg h1, if_neg h2, if_pos h3]
    rw [ev]
    clear h1 h2 h3 ev
    go_enter Tryd.func16, Tryd.ntmps16
    go_wp2_with fail
    generalize (((w.alloc (.cells #[.int .i64 A.how, .string (sB A.nt), .slice pa A.sp.length ca, .int .i64 A.pr] 29)).alloc (.cells #[.int .i64 B.how, .string (sB B.nt), .slice pb B.sp.length cb, .int .i64 B.pr] 29)).alloc (.cells #[.int .i64 0, .string ⟨#[]⟩, .slice none 0 0, .int .i64 0] 29)) = U at HX ⊢
    refine Calls.mono (filter_p A B A.pr _ _ U ⟨_, rfl, TxR.below HR.out.1 HX.out.1⟩ ⟨_, rfl, TxR.below HR.out.2 HX.out.1⟩ la lb) ?_
    rintro e w1 ⟨v1, rfl, hw1, hb1⟩
    obtain ⟨x1, c1', rfl⟩ := hw1.form
    have hx1 := (hb1.block _ (lt_of HX.out.2)).trans HX.out.2
    obtain ⟨⟨c0, c1, c2, c3⟩, f0, f1, f2, f3⟩ := blk4 hx1
    have HE : Hid _ := And.intro hx1 (And.intro (HX.out.1.trans (hb1.mono HX.out.1.size)) (WdV.row hw1))
    clear hb1 hx1 hw1
    go_wp2_with fail
    refine ret_r2 (X := w.heap.size + 1 + 1) Tryd.results16 rfl rfl ⟨_, set4_heap _ _ _ _ HE.out.1, rfl, ?_⟩
    exact ⟨_, rfl, ⟨_, rfl, set4_resR _ _ _ _ HE.out.2.2 HE.out.1 (.inr rfl)⟩, set4_bel _ _ _ _ HE.out.2.1 (by omega)⟩
  have d3 : (A.how == 3) = false := by simpa using h3
  by_cases h4 : B.how = 3
  · have d4 : (B.how == 3) = true := by simpa using h4
    have ev : rboth A B = (⟨3, [], B.sp.filter (rallows A), A.pr⟩, true) := by unfold rboth; rw [if_neg h1, if_neg h2, if_neg h3, if_pos h4]
    rw [ev]
    clear h1 h2 h3 h4 ev
    go_enter Tryd.func16, Tryd.ntmps16
    go_wp2_with fail
    generalize (((w.alloc (.cells #[.int .i64 A.how, .string (sB A.nt), .slice pa A.sp.length ca, .int .i64 A.pr] 29)).alloc (.cells #[.int .i64 B.how, .string (sB B.nt), .slice pb B.sp.length cb, .int .i64 B.pr] 29)).alloc (.cells #[.int .i64 0, .string ⟨#[]⟩, .slice none 0 0, .int .i64 0] 29)) = U at HX ⊢
    refine Calls.mono (filter_p B A A.pr _ _ U ⟨_, rfl, TxR.below HR.out.2 HX.out.1⟩ ⟨_, rfl, TxR.below HR.out.1 HX.out.1⟩ lb la) ?_
    rintro e w1 ⟨v1, rfl, hw1, hb1⟩
    obtain ⟨x1, c1', rfl⟩ := hw1.form
    have hx1 := (hb1.block _ (lt_of HX.out.2)).trans HX.out.2
    obtain ⟨⟨c0, c1, c2, c3⟩, f0, f1, f2, f3⟩ := blk4 hx1
    have HE : Hid _ := And.intro hx1 (And.intro (HX.out.1.trans (hb1.mono HX.out.1.size)) (WdV.row hw1))
    clear hb1 hx1 hw1
    go_wp2_with fail
    refine ret_r2 (X := w.heap.size + 1 + 1) Tryd.results16 rfl rfl ⟨_, set4_heap _ _ _ _ HE.out.1, rfl, ?_⟩
    exact ⟨_, rfl, ⟨_, rfl, set4_resR _ _ _ _ HE.out.2.2 HE.out.1 (.inr rfl)⟩, set4_bel _ _ _ _ HE.out.2.1 (by omega)⟩
  have d4 : (B.how == 3) = false := by simpa using h4
  clear HX
  by_cases h5 : A.nt = B.nt ∨ B.nt = []
  · have ev : rboth A B = (A, true) := by unfold rboth; rw [if_neg h1, if_neg h2, if_neg h3, if_neg h4, if_pos h5]
    rw [ev]
    have en : (sB B.nt).toList.isEmpty = decide (B.nt = []) := emp_dec _
    have HH : Hid _ := h5
    clear ev h1 h2 h3 h4
    go_enter Tryd.func16, Tryd.ntmps16
    go_wp2_with fail
    all_goals first
      | (refine ret_r2 (X := w.heap.size + 1 + 1) Tryd.results16 rfl rfl ⟨_, nw_at (sza2 _ _ _) _, rfl, ?_⟩
         exact ⟨_, rfl, ⟨_, rfl, TxR.below HR.out.1 (bel3 _ _ _ _)⟩, bel3 _ _ _ _⟩)
      | (exfalso; have := HH.out; simp_all [sBl_inj])
  have h5' : ¬ A.nt = B.nt := fun q => h5 (.inl q)
  have h6 : ¬ B.nt = [] := fun q => h5 (.inr q)
  have e5 : ((sB A.nt).toList == (sB B.nt).toList) = false := by simp [sBl_inj, h5']
  have en : (sB B.nt).toList.isEmpty = false := by rw [emp_dec]; exact decide_eq_false h6
  by_cases h7 : A.nt = []
  · have ev : rboth A B = ({ B with pr := A.pr }, true) := by unfold rboth; rw [if_neg h1, if_neg h2, if_neg h3, if_neg h4, if_neg h5, if_pos h7]
    have ea : (sB A.nt).toList.isEmpty = true := by rw [emp_dec]; exact decide_eq_true h7
    rw [ev]
    have HH : Hid _ := And.intro h5' h6
    clear ev h1 h2 h3 h4 h5 h6 h7 h5'
    go_enter Tryd.func16, Tryd.ntmps16
    go_wp2_with fail
    all_goals first
      | (refine ret_r2 (X := w.heap.size + 1 + 1) Tryd.results16 rfl rfl ⟨_, nw_at (sza2 _ _ _) _, rfl, ?_⟩
         exact ⟨_, rfl, ⟨_, rfl, TxR.below HR.out.2 (bel3 _ _ _ _)⟩, bel3 _ _ _ _⟩)
      | (exfalso; have := HH.out; simp_all [sBl_inj])
  · have ev : rboth A B = (Wd.zero, false) := by unfold rboth; rw [if_neg h1, if_neg h2, if_neg h3, if_neg h4, if_neg h5, if_neg h7]
    have ea : (sB A.nt).toList.isEmpty = false := by rw [emp_dec]; exact decide_eq_false h7
    rw [ev]
    have HH : Hid _ := And.intro h5' h6
    clear ev h1 h2 h3 h4 h5 h6 h7 h5'
    go_enter Tryd.func16, Tryd.ntmps16
    go_wp2_with fail
    all_goals first
      | (refine ret_r2 (X := w.heap.size + 1 + 1) Tryd.results16 rfl rfl ⟨_, nw_at (sza2 _ _ _) _, rfl, ?_⟩
         exact ⟨_, rfl, ⟨_, rfl, TxR.nil _ _ _⟩, bel3 _ _ _ _⟩)
      | (exfalso; have := HH.out; simp_all [sBl_inj])
end Go.Proofs.YtknfipcegmajaaaDoor
namespace Go.Proofs.YtknfipcegmajaaaDoor
open Go.RowKit
set_option linter.unusedVariables false
set_option linter.unusedSimpArgs false

theorem lw_eq {x : Tx} : ∀ {l : List Tx} {k : Nat} (hk : k ≤ l.length) (h1 : ∀ j (h : j < l.length), j < k → l[j] < x) (h2 : ∀ h : k < l.length, ¬ l[k] < x), lw x l = k
  | [], k, hk, _, _ => by simp at hk; simp [lw, hk]
  | a :: l, 0, _, _, h2 => by
    have := h2 (by simp)
    simp only [List.getElem_cons_zero] at this
    rw [lw, if_neg this]
  | a :: l, k + 1, hk, h1, h2 => by
    have h0 := h1 0 (by simp) (by omega)
    simp only [List.getElem_cons_zero] at h0
    rw [lw, if_pos h0, lw_eq (l := l) (k := k) (by simpa using hk) (fun j h hj => by
      have := h1 (j + 1) (by simpa using h) (by omega)
      simpa using this) (fun h => by
      have := h2 (by simpa using h)
      simpa using this)]
theorem tx_cell {w : World} {g off c n : Nat} {l : List Tx} (h : TxR w (.slice (some ⟨g, off, none⟩) n c) l) (j : Nat) (hj : j < l.length) : w.cell? ⟨g, off + j, none⟩ = some (.string (sB l[j])) := by
  obtain ⟨g', off', e, hg, hat⟩ := tx_at h (by
    obtain ⟨a', c'', e, _, _⟩ := h
    simp only [Value.slice.injEq] at e
    omega)
  simp only [Option.some.injEq, Addr.mk.injEq] at e
  obtain ⟨rfl, rfl, _⟩ := e
  exact hat j hj
theorem tx_sub {w : World} {g off c n : Nat} {l : List Tx} (h : TxR w (.slice (some ⟨g, off, none⟩) n c) l) (i m c' : Nat) (him : i + m ≤ l.length) (hc : m ≤ c') : TxR w (.slice (some ⟨g, off + i, none⟩) m c') ((l.drop i).take m) := by
  have hlen : ((l.drop i).take m).length = m := by simp; omega
  refine ⟨some ⟨g, off + i, none⟩, c', by rw [hlen], by rw [hlen]; exact hc, ?_⟩
  by_cases h0 : m = 0
  · left; subst h0; simp
  · obtain ⟨g', off', e, hg, hat⟩ := tx_at h (by
      obtain ⟨a', c'', e, _, _⟩ := h
      simp only [Value.slice.injEq] at e
      omega)
    simp only [Option.some.injEq, Addr.mk.injEq] at e
    obtain ⟨rfl, rfl, _⟩ := e
    refine .inr ⟨g, off + i, rfl, hg, fun j hj => ?_⟩
    have := hat (i + j) (by simp at hj; omega)
    rw [Nat.add_assoc, this]
    simp
set_option maxRecDepth 8000 in
set_option maxHeartbeats 4000000 in
theorem put_p (l : List Tx) (x : Tx) (v : Value) (w : World) (h : TxR w v l) (hi : Inc l) (hl : l.length < 5000) (hne : l ≠ []) :
    Calls Tryd.prog 30 #[v, eS x] w fun e w' => ∃ v', e = .returned v' ∧ TxR w' v' (rput l x) ∧ Below w.heap.size w w' := by
  obtain ⟨i50, hi50, hz0, hz1, hz3⟩ := info_sp
  obtain ⟨a, c, rfl, hc⟩ := h.len
  have hp := List.length_pos_iff.2 hne
  obtain ⟨g0, off, rfl, hg0, hat⟩ := tx_at h hp
  have HX : Hid _ := And.intro h hi
  clear h hi hat hne
  obtain ⟨N, hN⟩ : ∃ N, sB x = N := ⟨_, rfl⟩
  have HN : Hid (sB x = N) := hN
  generalize hnn : l.length = n at hl hc hp HX ⊢
  have Hn : Hid (l.length = n) := hnn
  clear hnn
  show Calls Tryd.prog 30 #[.slice (some ⟨g0, off, none⟩) n c, .string (sB x)] w _
  rw [hN]
  clear hN
  go_enter Tryd.func30, Tryd.ntmps30
  go_wp2_with fail
  go_loopg [5] (n + 1) (fun g v5 wr => ∃ k : Nat, k + g = n + 1 ∧ v5 = .int .i64 (k : Int) ∧ k ≤ n ∧ (∀ j (h : j < l.length), j < k → l[j] < x) ∧ wr = w)
  case atStart => exact ⟨0, by omega, rfl, by omega, fun j h hj => by omega, rfl⟩
  case round =>
    obtain ⟨k, hk, rfl, hkn, hall, hw⟩ := hrel
    have hw' := hw.symm
    clear hw
    subst hw'
    have HA : Hid _ := hall
    clear hall
    by_cases hlt : k < n
    · have hkl : k < l.length := by rw [Hn.out]; exact hlt
      have e0 := tx_cell HX.out.1 k hkl
      have hle := less_eq l[k] x
      rw [HN.out] at hle
      by_cases hq : l[k] < x
      · obtain ⟨gg, rfl⟩ : ∃ gg, gk = gg + 1 := ⟨gk - 1, by omega⟩
        rw [decide_eq_true hq] at hle
        have HQ : Hid _ := hq
        generalize sB l[k] = M at e0 hle
        clear hq
        go_wp2_with fail
        go_roundg gg
        case measure => omega
        case rel =>
          refine ⟨k + 1, by omega, by go_num, by omega, fun j h hj => ?_, rfl⟩
          by_cases e : j = k
          · subst e; exact HQ.out
          · exact HA.out j h (by omega)
      · rw [decide_eq_false hq] at hle
        have hlw : lw x l = k := lw_eq (by rw [Hn.out]; omega) HA.out (fun _ => hq)
        by_cases he : l[k] = x
        · have hr : rput l x = l := rput_in HX.out.2 (by rw [← he]; exact List.getElem_mem hkl)
          have hM : sB l[k] = N := by rw [he]; exact HN.out
          rw [hM] at e0 hle
          have HRR : Hid _ := And.intro hr HX.out.1
          clear hM he hq hlw hr HX HA
          go_wp2_with fail
          go_ret
          exact ⟨_, rfl, by rw [HRR.out.1]; exact HRR.out.2, Below.refl _ _⟩
        · have hni : x ∉ l := fun hm => by
            obtain ⟨_, q⟩ := (lw_mem HX.out.2).2 hm
            simp only [hlw] at q
            exact he q
          have hr : rput l x = l.take k ++ x :: l.drop k := by rw [rput_out HX.out.2 hni, hlw]
          have hM : ((sB l[k]).toList == N.toList) = false := by rw [← HN.out]; simp [sBl_inj, he]
          generalize sB l[k] = M at e0 hle hM
          have t1 := tx_sub HX.out.1 0 k c (by rw [Hn.out]; omega) (by omega)
          have t2 := tx_sub HX.out.1 k (n - k) (c - k) (by rw [Hn.out]; omega) (by omega)
          have HT : Hid _ := And.intro t1 (And.intro t2 hr)
          clear t1 t2 hr hni he hq hlw HA
          have hkn' : k ≤ n := hkn
          have hW1 : Below w.heap.size w (w.alloc (.cells #[] 9)) := bel1 _ _
          have ho : OwS (w.alloc (.cells #[] 9)) w.heap.size (.slice (some ⟨w.heap.size, 0, none⟩) 0 0) [] := ⟨rfl, .inr ⟨w.heap.size, 0, #[], rfl, Nat.le_refl _, nw_heap w _, Nat.le_refl _, by unfold maxLen; omega, by simp, by simp [tc]⟩⟩
          have hn1 := tx_news (HT.out.1.below hW1)
          have hl1 : (tc (l.take k)).length = k := by rw [tc_len, List.length_take, Hn.out]; omega
          have hl2 : (tc (l.drop k)).length = n - k := by rw [tc_len, List.length_drop, Hn.out]
          have HO : Hid _ := And.intro ho (And.intro hW1 (And.intro hn1 (And.intro hl1 hl2)))
          clear hW1 ho hn1 hl1 hl2
          go_wp2_with (first
            | (at_builtin; refine wpList_app (P := Tryd.prog) (w.alloc (.cells #[] 9)) rfl (.tmp 34) (.tmp 37) 23 rfl w.heap.size 9 i50 (.string ⟨#[]⟩) 1 16 Tryd.underlying23 hi50 hz0 hz1 hz3 rfl (by decide) (.slice (some ⟨w.heap.size, 0, none⟩) 0 0) 0 (tc []) rfl HO.out.1 (some ⟨g0, off, none⟩) k c (tc (l.take k)) rfl (by rw [Nat.mul_one]; exact HO.out.2.2.2.1) HO.out.2.2.1 (tc_one _) (by unfold maxLen; omega) (by omega) (by rw [sza]; omega) ?_; intro v7 w7 hown7 hg7 _; have hb7 := HO.out.2.1.grown hg7 HO.out.2.1.size (fun j hj => (row_base HO.out.1 j hj).1); rw [Nat.zero_add] at hown7; obtain ⟨a7, c7, rfl⟩ := row_form hown7; have H7 : Hid _ := And.intro hown7 hb7; clear hown7 hg7 hb7)
            | (at_builtin; refine wpList_app (P := Tryd.prog) (w7.alloc (.cells #[.string N] 9)) rfl (.tmp 38) (.tmp 40) 23 rfl w.heap.size 9 i50 (.string ⟨#[]⟩) 1 16 Tryd.underlying23 hi50 hz0 hz1 hz3 rfl (by decide) (.slice a7 k c7) k (tc [] ++ tc (l.take k)) rfl (row_below H7.out.1 (bel1 _ _)) (some ⟨w7.heap.size, 0, none⟩) 1 1 [.string N] rfl rfl (.inr ⟨_, rfl, World.news_of_block (nw_heap w7 _)⟩) (by simp [Value.oneCell']) (by unfold maxLen; omega) (by omega) (by have := H7.out.2.size; rw [sza]; omega) ?_; intro v8 w8 hown8 hg8 _; have hb8 := (H7.out.2.trans ((bel1 w7 _).mono H7.out.2.size)).grown hg8 (by have := H7.out.2.size; rw [sza]; omega) (fun j hj => (row_base H7.out.1 j hj).1); obtain ⟨a8, c8, rfl⟩ := row_form hown8; have H8 : Hid _ := And.intro hown8 hb8; clear hown8 hg8 hb8)
            | (at_builtin; refine wpList_app (P := Tryd.prog) w8 rfl (.tmp 42) (.tmp 45) 23 rfl w.heap.size 9 i50 (.string ⟨#[]⟩) 1 16 Tryd.underlying23 hi50 hz0 hz1 hz3 rfl (by decide) (.slice a8 (k + 1) c8) (k + 1) (tc [] ++ tc (l.take k) ++ [.string N]) rfl H8.out.1 (some ⟨g0, off + k, none⟩) (n - k) (c - k) (tc (l.drop k)) rfl (by rw [Nat.mul_one]; exact HO.out.2.2.2.2) (by have := HT.out.2.1.below H8.out.2; rw [List.take_of_length_le (by rw [List.length_drop, Hn.out]; omega)] at this; exact tx_news this) (tc_one _) (by unfold maxLen; omega) (by omega) H8.out.2.size ?_; intro v9 w9 hown9 hg9 _; have hb9 := H8.out.2.grown hg9 H8.out.2.size (fun j hj => (row_base H8.out.1 j hj).1); obtain ⟨a9, c9, rfl⟩ := row_form hown9; have H9 : Hid _ := And.intro hown9 hb9; clear hown9 hg9 hb9))
          go_ret
          refine ⟨_, rfl, ?_, H9.out.2⟩
          have hlen : (l.take k ++ x :: l.drop k).length = k + 1 + (n - k) := by
            simp [Hn.out]; omega
          have ho9 : OwS w9 w.heap.size (.slice a9 (k + 1 + (n - k)) c9) (l.take k ++ x :: l.drop k) := by
            unfold OwS
            rw [hlen]
            have e : tc (l.take k ++ x :: l.drop k) = tc [] ++ tc (l.take k) ++ [.string N] ++ tc (l.drop k) := by
              rw [← HN.out]; simp [tc]
            rw [e]
            exact H9.out.1
          have := ho9.tx
          rw [HT.out.2.2]
          exact this
    · have hke : k = n := by omega
      subst hke
      have hlw : lw x l = k := lw_eq (by rw [Hn.out]; omega) HA.out (fun h => by have := Hn.out; omega)
      have hni : x ∉ l := fun hm => by
        obtain ⟨q, _⟩ := (lw_mem HX.out.2).2 hm
        have := Hn.out
        omega
      have hr : rput l x = l.take k ++ x :: l.drop k := by rw [rput_out HX.out.2 hni, hlw]
      have t1 := tx_sub HX.out.1 0 k c (by rw [Hn.out]; omega) (by omega)
      have HT : Hid _ := And.intro t1 (And.intro t1 hr)
      clear t1 hr hni hlw HA
      have hW1 : Below w.heap.size w (w.alloc (.cells #[] 9)) := bel1 _ _
      have ho : OwS (w.alloc (.cells #[] 9)) w.heap.size (.slice (some ⟨w.heap.size, 0, none⟩) 0 0) [] := ⟨rfl, .inr ⟨w.heap.size, 0, #[], rfl, Nat.le_refl _, nw_heap w _, Nat.le_refl _, by unfold maxLen; omega, by simp, by simp [tc]⟩⟩
      have hn1 := tx_news (HT.out.1.below hW1)
      have hl1 : (tc (l.take k)).length = k := by rw [tc_len, List.length_take, Hn.out]; omega
      have hl2 : l.drop k = [] := List.drop_eq_nil_of_le (by rw [Hn.out]; omega)
      have HO : Hid _ := And.intro ho (And.intro hW1 (And.intro hn1 (And.intro hl1 hl2)))
      clear hW1 ho hn1 hl1 hl2
      go_wp2_with (first
        | (at_builtin; refine wpList_app (P := Tryd.prog) (w.alloc (.cells #[] 9)) rfl (.tmp 34) (.tmp 37) 23 rfl w.heap.size 9 i50 (.string ⟨#[]⟩) 1 16 Tryd.underlying23 hi50 hz0 hz1 hz3 rfl (by decide) (.slice (some ⟨w.heap.size, 0, none⟩) 0 0) 0 (tc []) rfl HO.out.1 (some ⟨g0, off, none⟩) k c (tc (l.take k)) rfl (by rw [Nat.mul_one]; exact HO.out.2.2.2.1) HO.out.2.2.1 (tc_one _) (by unfold maxLen; omega) (by omega) (by rw [sza]; omega) ?_; intro v7 w7 hown7 hg7 _; have hb7 := HO.out.2.1.grown hg7 HO.out.2.1.size (fun j hj => (row_base HO.out.1 j hj).1); rw [Nat.zero_add] at hown7; obtain ⟨a7, c7, rfl⟩ := row_form hown7; have H7 : Hid _ := And.intro hown7 hb7; clear hown7 hg7 hb7)
        | (at_builtin; refine wpList_app (P := Tryd.prog) (w7.alloc (.cells #[.string N] 9)) rfl (.tmp 38) (.tmp 40) 23 rfl w.heap.size 9 i50 (.string ⟨#[]⟩) 1 16 Tryd.underlying23 hi50 hz0 hz1 hz3 rfl (by decide) (.slice a7 k c7) k (tc [] ++ tc (l.take k)) rfl (row_below H7.out.1 (bel1 _ _)) (some ⟨w7.heap.size, 0, none⟩) 1 1 [.string N] rfl rfl (.inr ⟨_, rfl, World.news_of_block (nw_heap w7 _)⟩) (by simp [Value.oneCell']) (by unfold maxLen; omega) (by omega) (by have := H7.out.2.size; rw [sza]; omega) ?_; intro v8 w8 hown8 hg8 _; have hb8 := (H7.out.2.trans ((bel1 w7 _).mono H7.out.2.size)).grown hg8 (by have := H7.out.2.size; rw [sza]; omega) (fun j hj => (row_base H7.out.1 j hj).1); obtain ⟨a8, c8, rfl⟩ := row_form hown8; have H8 : Hid _ := And.intro hown8 hb8; clear hown8 hg8 hb8)
        | (at_builtin; refine wpList_app (P := Tryd.prog) w8 rfl (.tmp 42) (.tmp 45) 23 rfl w.heap.size 9 i50 (.string ⟨#[]⟩) 1 16 Tryd.underlying23 hi50 hz0 hz1 hz3 rfl (by decide) (.slice a8 (k + 1) c8) (k + 1) (tc [] ++ tc (l.take k) ++ [.string N]) rfl H8.out.1 _ 0 _ (tc []) rfl rfl (.inl rfl) (tc_one _) (by unfold maxLen; omega) (by omega) H8.out.2.size ?_; intro v9 w9 hown9 hg9 _; have hb9 := H8.out.2.grown hg9 H8.out.2.size (fun j hj => (row_base H8.out.1 j hj).1); obtain ⟨a9, c9, rfl⟩ := row_form hown9; have H9 : Hid _ := And.intro hown9 hb9; clear hown9 hg9 hb9))
      all_goals
        go_ret
        refine ⟨_, rfl, ?_, H9.out.2⟩
        have hlen : (l.take k ++ x :: l.drop k).length = k + 1 + 0 := by
          rw [HO.out.2.2.2.2]; simp [Hn.out]
        have ho9 : OwS w9 w.heap.size (.slice a9 (k + 1 + 0) c9) (l.take k ++ x :: l.drop k) := by
          unfold OwS
          rw [hlen]
          have e : tc (l.take k ++ x :: l.drop k) = tc [] ++ tc (l.take k) ++ [.string N] ++ tc (l.drop k) := by
            rw [← HN.out]; simp [tc]
          rw [e, HO.out.2.2.2.2]
          exact H9.out.1
        have := ho9.tx
        rw [HT.out.2.2]
        exact this
set_option maxRecDepth 8000 in
set_option maxHeartbeats 4000000 in
theorem put_nil (x : Tx) (a : Option Addr) (c : Nat) (w : World) :
    Calls Tryd.prog 30 #[.slice a 0 c, eS x] w fun e w' => ∃ v', e = .returned v' ∧ TxR w' v' [x] ∧ Below w.heap.size w w' := by
  obtain ⟨i50, hi50, hz0, hz1, hz3⟩ := info_sp
  obtain ⟨N, hN⟩ : ∃ N, sB x = N := ⟨_, rfl⟩
  have HN : Hid (sB x = N) := hN
  show Calls Tryd.prog 30 #[.slice a 0 c, .string (sB x)] w _
  rw [hN]
  clear hN
  have hW1 : Below w.heap.size w (w.alloc (.cells #[] 9)) := bel1 _ _
  have ho : OwS (w.alloc (.cells #[] 9)) w.heap.size (.slice (some ⟨w.heap.size, 0, none⟩) 0 0) [] := ⟨rfl, .inr ⟨w.heap.size, 0, #[], rfl, Nat.le_refl _, nw_heap w _, Nat.le_refl _, by unfold maxLen; omega, by simp, by simp [tc]⟩⟩
  have HO : Hid _ := And.intro ho hW1
  clear hW1 ho
  go_enter Tryd.func30, Tryd.ntmps30
  go_wp2_with fail
  go_loopg [5] 1 (fun g v5 wr => ∃ k : Nat, v5 = .int .i64 (k : Int) ∧ k = 0 ∧ wr = w)
  case atStart => exact ⟨0, rfl, rfl, rfl⟩
  case round =>
    obtain ⟨k, rfl, rfl, hw⟩ := hrel
    have hw' := hw.symm
    clear hw
    subst hw'
    cases a with
    | none =>
      go_wp2_with (first
        | (at_builtin; refine wpList_app (P := Tryd.prog) (w.alloc (.cells #[] 9)) rfl (.tmp 34) (.tmp 37) 23 rfl w.heap.size 9 i50 (.string ⟨#[]⟩) 1 16 Tryd.underlying23 hi50 hz0 hz1 hz3 rfl (by decide) (.slice (some ⟨w.heap.size, 0, none⟩) 0 0) 0 (tc []) rfl HO.out.1 _ 0 _ (tc []) rfl rfl (.inl rfl) (tc_one _) (by unfold maxLen; omega) (by omega) (by rw [sza]; omega) ?_; intro v7 w7 hown7 hg7 _; have hb7 := HO.out.2.grown hg7 HO.out.2.size (fun j hj => (row_base HO.out.1 j hj).1); obtain ⟨a7, c7, rfl⟩ := row_form hown7; have H7 : Hid _ := And.intro hown7 hb7; clear hown7 hg7 hb7)
        | (at_builtin; refine wpList_app (P := Tryd.prog) (w7.alloc (.cells #[.string N] 9)) rfl (.tmp 38) (.tmp 40) 23 rfl w.heap.size 9 i50 (.string ⟨#[]⟩) 1 16 Tryd.underlying23 hi50 hz0 hz1 hz3 rfl (by decide) (.slice a7 (0 + 0) c7) (0 + 0) (tc [] ++ tc []) rfl (row_below H7.out.1 (bel1 _ _)) (some ⟨w7.heap.size, 0, none⟩) 1 1 [.string N] rfl rfl (.inr ⟨_, rfl, World.news_of_block (nw_heap w7 _)⟩) (by simp [Value.oneCell']) (by unfold maxLen; omega) (by omega) (by have := H7.out.2.size; rw [sza]; omega) ?_; intro v8 w8 hown8 hg8 _; have hb8 := (H7.out.2.trans ((bel1 w7 _).mono H7.out.2.size)).grown hg8 (by have := H7.out.2.size; rw [sza]; omega) (fun j hj => (row_base H7.out.1 j hj).1); obtain ⟨a8, c8, rfl⟩ := row_form hown8; have H8 : Hid _ := And.intro hown8 hb8; clear hown8 hg8 hb8)
        | (at_builtin; refine wpList_app (P := Tryd.prog) w8 rfl (.tmp 42) (.tmp 45) 23 rfl w.heap.size 9 i50 (.string ⟨#[]⟩) 1 16 Tryd.underlying23 hi50 hz0 hz1 hz3 rfl (by decide) (.slice a8 (0 + 0 + 1) c8) (0 + 0 + 1) (tc [] ++ tc [] ++ [.string N]) rfl H8.out.1 _ 0 _ (tc []) rfl rfl (.inl rfl) (tc_one _) (by unfold maxLen; omega) (by omega) H8.out.2.size ?_; intro v9 w9 hown9 hg9 _; have hb9 := H8.out.2.grown hg9 H8.out.2.size (fun j hj => (row_base H8.out.1 j hj).1); obtain ⟨a9, c9, rfl⟩ := row_form hown9; have H9 : Hid _ := And.intro hown9 hb9; clear hown9 hg9 hb9))
      all_goals
        go_ret
        refine ⟨_, rfl, ?_, H9.out.2⟩
        have ho9 : OwS w9 w.heap.size (.slice a9 1 c9) [x] := by
          have := H9.out.1
          rw [← HN.out] at this
          exact this
        exact ho9.tx
    | some ad =>
      go_wp2_with (first
        | (at_builtin; refine wpList_app (P := Tryd.prog) (w.alloc (.cells #[] 9)) rfl (.tmp 34) (.tmp 37) 23 rfl w.heap.size 9 i50 (.string ⟨#[]⟩) 1 16 Tryd.underlying23 hi50 hz0 hz1 hz3 rfl (by decide) (.slice (some ⟨w.heap.size, 0, none⟩) 0 0) 0 (tc []) rfl HO.out.1 _ 0 _ (tc []) rfl rfl (.inl rfl) (tc_one _) (by unfold maxLen; omega) (by omega) (by rw [sza]; omega) ?_; intro v7 w7 hown7 hg7 _; have hb7 := HO.out.2.grown hg7 HO.out.2.size (fun j hj => (row_base HO.out.1 j hj).1); obtain ⟨a7, c7, rfl⟩ := row_form hown7; have H7 : Hid _ := And.intro hown7 hb7; clear hown7 hg7 hb7)
        | (at_builtin; refine wpList_app (P := Tryd.prog) (w7.alloc (.cells #[.string N] 9)) rfl (.tmp 38) (.tmp 40) 23 rfl w.heap.size 9 i50 (.string ⟨#[]⟩) 1 16 Tryd.underlying23 hi50 hz0 hz1 hz3 rfl (by decide) (.slice a7 (0 + 0) c7) (0 + 0) (tc [] ++ tc []) rfl (row_below H7.out.1 (bel1 _ _)) (some ⟨w7.heap.size, 0, none⟩) 1 1 [.string N] rfl rfl (.inr ⟨_, rfl, World.news_of_block (nw_heap w7 _)⟩) (by simp [Value.oneCell']) (by unfold maxLen; omega) (by omega) (by have := H7.out.2.size; rw [sza]; omega) ?_; intro v8 w8 hown8 hg8 _; have hb8 := (H7.out.2.trans ((bel1 w7 _).mono H7.out.2.size)).grown hg8 (by have := H7.out.2.size; rw [sza]; omega) (fun j hj => (row_base H7.out.1 j hj).1); obtain ⟨a8, c8, rfl⟩ := row_form hown8; have H8 : Hid _ := And.intro hown8 hb8; clear hown8 hg8 hb8)
        | (at_builtin; refine wpList_app (P := Tryd.prog) w8 rfl (.tmp 42) (.tmp 45) 23 rfl w.heap.size 9 i50 (.string ⟨#[]⟩) 1 16 Tryd.underlying23 hi50 hz0 hz1 hz3 rfl (by decide) (.slice a8 (0 + 0 + 1) c8) (0 + 0 + 1) (tc [] ++ tc [] ++ [.string N]) rfl H8.out.1 _ 0 _ (tc []) rfl rfl (.inl rfl) (tc_one _) (by unfold maxLen; omega) (by omega) H8.out.2.size ?_; intro v9 w9 hown9 hg9 _; have hb9 := H8.out.2.grown hg9 H8.out.2.size (fun j hj => (row_base H8.out.1 j hj).1); obtain ⟨a9, c9, rfl⟩ := row_form hown9; have H9 : Hid _ := And.intro hown9 hb9; clear hown9 hg9 hb9))
      all_goals
        go_ret
        refine ⟨_, rfl, ?_, H9.out.2⟩
        have ho9 : OwS w9 w.heap.size (.slice a9 1 c9) [x] := by
          have := H9.out.1
          rw [← HN.out] at this
          exact this
        exact ho9.tx
theorem put_any (l : List Tx) (x : Tx) (v : Value) (w : World) (h : TxR w v l) (hi : Inc l) (hl : l.length < 5000) :
    Calls Tryd.prog 30 #[v, eS x] w fun e w' => ∃ v', e = .returned v' ∧ TxR w' v' (rput l x) ∧ Below w.heap.size w w' := by
  by_cases h0 : l = []
  · subst h0
    obtain ⟨a, c, rfl, _⟩ := h.len
    exact put_nil x a c w
  · exact put_p l x v w h hi hl h0
end Go.Proofs.YtknfipcegmajaaaDoor
namespace Go.Proofs.YtknfipcegmajaaaDoor
open Go.RowKit
set_option linter.unusedVariables false
set_option linter.unusedSimpArgs false

theorem len_rput (x : Tx) : ∀ l : List Tx, (rput l x).length ≤ l.length + 1
  | [] => by simp [rput]
  | a :: l => by
    have := len_rput x l
    unfold rput
    split
    · simp; exact this
    · split <;> simp
theorem len_fold : ∀ (m l : List Tx), (m.foldl rput l).length ≤ l.length + m.length
  | [], l => by simp
  | a :: m, l => by
    have h1 := len_fold m (rput l a)
    have h2 := len_rput a l
    rw [List.foldl_cons, List.length_cons]
    omega
theorem fold_snoc {m l : List Tx} {k : Nat} (h : k < m.length) : (m.take (k + 1)).foldl rput l = rput ((m.take k).foldl rput l) m[k] := by
  rw [take_snoc h, List.foldl_append]; rfl
set_option maxRecDepth 8000 in
set_option maxHeartbeats 4000000 in
theorem runion_these (A B : Wd) (va vb : Value) (w : World) (ha : WdV w va A) (hb : WdV w vb B) (ia : Inc A.sp) (h3 : A.how = 3) (h4 : B.how = 3) (la : A.sp.length < 1000) (lb : B.sp.length < 1000) :
    Calls Tryd.prog 18 #[va, vb] w fun e w' => WbQ (runion A B) w e w' := by
  obtain ⟨sa, rfl, ha⟩ := ha
  obtain ⟨pa, ca, rfl, ha2⟩ := ha.len
  obtain ⟨sb, rfl, hb⟩ := hb
  obtain ⟨pb, cb, rfl, hb2⟩ := hb.len
  have ev : runion A B = (⟨3, [], B.sp.foldl rput A.sp, A.pr⟩, true) := by unfold runion; rw [if_neg (by omega), if_pos ⟨h3, h4⟩]
  rw [ev]
  have dA1 : (A.how == 1) = false := by rw [h3]; rfl
  have dA3 : (A.how == 3) = true := by rw [h3]; rfl
  have dB1 : (B.how == 1) = false := by rw [h4]; rfl
  have dB3 : (B.how == 3) = true := by rw [h4]; rfl
  have hb0 : Below w.heap.size w (((w.alloc (.cells #[.int .i64 A.how, .string (sB A.nt), .slice pa A.sp.length ca, .int .i64 A.pr] 29)).alloc (.cells #[.int .i64 B.how, .string (sB B.nt), .slice pb B.sp.length cb, .int .i64 B.pr] 29)).alloc (.cells #[.int .i64 0, .string ⟨#[]⟩, .slice none 0 0, .int .i64 0] 29)) := bel3 _ _ _ _
  have hxb : (((w.alloc (.cells #[.int .i64 A.how, .string (sB A.nt), .slice pa A.sp.length ca, .int .i64 A.pr] 29)).alloc (.cells #[.int .i64 B.how, .string (sB B.nt), .slice pb B.sp.length cb, .int .i64 B.pr] 29)).alloc (.cells #[.int .i64 0, .string ⟨#[]⟩, .slice none 0 0, .int .i64 0] 29)).heap[w.heap.size + 1]? = some (.cells #[.int .i64 B.how, .string (sB B.nt), .slice pb B.sp.length cb, .int .i64 B.pr] 29 (0, 0)) := nw_below (nw_at (sza _ _) _)
  have hxr : (((w.alloc (.cells #[.int .i64 A.how, .string (sB A.nt), .slice pa A.sp.length ca, .int .i64 A.pr] 29)).alloc (.cells #[.int .i64 B.how, .string (sB B.nt), .slice pb B.sp.length cb, .int .i64 B.pr] 29)).alloc (.cells #[.int .i64 0, .string ⟨#[]⟩, .slice none 0 0, .int .i64 0] 29)).heap[w.heap.size + 1 + 1]? = some (.cells #[.int .i64 0, .string ⟨#[]⟩, .slice none 0 0, .int .i64 0] 29 (0, 0)) := nw_at (sza2 _ _ _) _
  have HX : Hid _ := And.intro (ha.below hb0) (And.intro (hb.below hb0) (And.intro hb0 (And.intro hxb hxr)))
  have HI : Hid _ := ia
  clear ha hb h3 h4 hb0 hxb hxr ia ev
  go_enter Tryd.func18, Tryd.ntmps18
  go_wp2_with fail
  generalize (((w.alloc (.cells #[.int .i64 A.how, .string (sB A.nt), .slice pa A.sp.length ca, .int .i64 A.pr] 29)).alloc (.cells #[.int .i64 B.how, .string (sB B.nt), .slice pb B.sp.length cb, .int .i64 B.pr] 29)).alloc (.cells #[.int .i64 0, .string ⟨#[]⟩, .slice none 0 0, .int .i64 0] 29)) = U at HX ⊢
  generalize hnn : B.sp.length = n at lb hb2 HX ⊢
  have Hn : Hid (B.sp.length = n) := hnn
  clear hnn
  go_loopg [7, 8] n (fun g v7 v8 wr => ∃ k : Nat, k + g = n ∧ v8 = .int .i64 (k : Int) ∧ TxR wr v7 ((B.sp.take k).foldl rput A.sp) ∧ Below U.heap.size U wr)
  case atStart => exact ⟨0, by omega, rfl, HX.out.1, Below.refl _ _⟩
  case round =>
    obtain ⟨k, hk, rfl, ht, hb⟩ := hrel
    have hxb := (hb.block _ (lt_of HX.out.2.2.2.1)).trans HX.out.2.2.2.1
    obtain ⟨⟨b0, b1, b2, b3⟩, _⟩ := blk4 hxb
    have HB : Hid _ := And.intro ht hb
    obtain ⟨xa, xc, rfl, _⟩ := ht.len
    clear ht hb hxb b0 b1 b3
    by_cases hlt : k < n
    · obtain ⟨gg, rfl⟩ : ∃ gg, gk = gg + 1 := ⟨gk - 1, by omega⟩
      have hkl : k < B.sp.length := by rw [Hn.out]; exact hlt
      obtain ⟨g0, off, rfl, hg0, hat⟩ := tx_at HX.out.2.1 (by omega)
      have e0 : wr.cell? ⟨g0, off + k, none⟩ = some (.string (sB (B.sp[k]'hkl))) := (HB.out.2.cell (p := ⟨g0, off + k, none⟩) hg0).trans (hat k hkl)
      have hfs := fold_snoc (l := A.sp) hkl
      obtain ⟨x, hx⟩ : ∃ x, B.sp[k] = x := ⟨_, rfl⟩
      rw [hx] at e0 hfs
      have hlen := len_fold (B.sp.take k) A.sp
      rw [List.length_take] at hlen
      have hinc : Inc ((B.sp.take k).foldl rput A.sp) := inc_foldput HI.out
      have hq := put_any _ x _ wr HB.out.1 hinc (by omega)
      have HS : Hid _ := And.intro hfs hq
      clear hfs hq hx hat hlen hinc
      go_wp2_with fail
      refine Calls.mono HS.out.2 ?_
      rintro e w1 ⟨v1, rfl, ht1, hb1⟩
      have H1 : Hid _ := And.intro ht1 (HB.out.2.trans (hb1.mono HB.out.2.size))
      clear ht1 hb1
      go_wp2_with fail
      go_roundg gg
      case measure => omega
      case rel => exact ⟨k + 1, by omega, by go_num, by rw [HS.out.1]; exact H1.out.1, H1.out.2⟩
    · have htk : B.sp.take k = B.sp := List.take_of_length_le (by rw [Hn.out]; omega)
      have hxr := (HB.out.2.block _ (lt_of HX.out.2.2.2.2)).trans HX.out.2.2.2.2
      obtain ⟨⟨c0, c1, c2, c3⟩, f0, f1, f2, f3⟩ := blk4 hxr
      have HE : Hid _ := And.intro hxr (And.intro (HX.out.2.2.1.trans (HB.out.2.mono HX.out.2.2.1.size)) HB.out.1)
      have HTK : Hid _ := htk
      clear htk hxr
      go_wp2_with fail
      refine ret_r2 (X := w.heap.size + 1 + 1) Tryd.results18 rfl rfl ⟨_, set4_heap _ _ _ _ HE.out.1, rfl, ?_⟩
      have ht := set4_resR (.int .i64 3) (.string ⟨#[]⟩) (.slice xa ((B.sp.take k).foldl rput A.sp).length xc) (.int .i64 A.pr) HE.out.2.2 HE.out.1 (.inr rfl)
      rw [HTK.out] at ht ⊢
      exact ⟨_, rfl, ⟨_, rfl, ht⟩, set4_bel _ _ _ _ HE.out.2.1 (by omega)⟩
set_option maxRecDepth 8000 in
set_option maxHeartbeats 4000000 in
theorem runion_every (A B : Wd) (va vb : Value) (w : World) (ha : WdV w va A) (hb : WdV w vb B) (h : A.how = 1 ∨ B.how = 1) :
    Calls Tryd.prog 18 #[va, vb] w fun e w' => WbQ (runion A B) w e w' := by
  obtain ⟨sa, rfl, ha⟩ := ha
  obtain ⟨pa, ca, rfl, ha2⟩ := ha.len
  obtain ⟨sb, rfl, hb⟩ := hb
  obtain ⟨pb, cb, rfl, hb2⟩ := hb.len
  have ev : runion A B = (⟨1, [], [], A.pr⟩, true) := by unfold runion; rw [if_pos h]
  rw [ev]
  clear ha hb ev
  by_cases h1 : A.how = 1
  · clear h
    go_enter Tryd.func18, Tryd.ntmps18
    go_wp2_with fail
    refine ret_r2 (X := w.heap.size + 1 + 1) Tryd.results18 rfl rfl ⟨_, nw_at (sza2 _ _ _) _, rfl, ?_⟩
    exact ⟨_, rfl, ⟨_, rfl, TxR.nil _ _ _⟩, bel3 _ _ _ _⟩
  · have h2 : B.how = 1 := by omega
    have d1 : (A.how == 1) = false := by simpa using h1
    clear h
    go_enter Tryd.func18, Tryd.ntmps18
    go_wp2_with fail
    refine ret_r2 (X := w.heap.size + 1 + 1) Tryd.results18 rfl rfl ⟨_, nw_at (sza2 _ _ _) _, rfl, ?_⟩
    exact ⟨_, rfl, ⟨_, rfl, TxR.nil _ _ _⟩, bel3 _ _ _ _⟩
set_option maxRecDepth 8000 in
set_option maxHeartbeats 4000000 in
theorem runion_other (A B : Wd) (va vb : Value) (w : World) (ha : WdV w va A) (hb : WdV w vb B) (h3 : A.how = 2) (h4 : B.how = 2) :
    Calls Tryd.prog 18 #[va, vb] w fun e w' => WbQ (runion A B) w e w' := by
  obtain ⟨sa, rfl, ha⟩ := ha
  obtain ⟨pa, ca, rfl, ha2⟩ := ha.len
  obtain ⟨sb, rfl, hb⟩ := hb
  obtain ⟨pb, cb, rfl, hb2⟩ := hb.len
  have dA1 : (A.how == 1) = false := by rw [h3]; rfl
  have dA2 : (A.how == 2) = true := by rw [h3]; rfl
  have dA3 : (A.how == 3) = false := by rw [h3]; rfl
  have dB1 : (B.how == 1) = false := by rw [h4]; rfl
  have dB2 : (B.how == 2) = true := by rw [h4]; rfl
  have HA : Hid _ := ha
  by_cases hn : A.nt = B.nt
  · have ev : runion A B = (A, true) := by unfold runion; rw [if_neg (by omega), if_neg (by omega), if_pos ⟨h3, h4⟩, if_pos hn]
    rw [ev]
    have ee : ((sB A.nt).toList == (sB B.nt).toList) = true := by simp [hn]
    have HN : Hid _ := hn
    clear ha hb h3 h4 ev hn
    go_enter Tryd.func18, Tryd.ntmps18
    go_wp2_with fail
    all_goals first
      | (refine ret_r2 (X := w.heap.size + 1 + 1) Tryd.results18 rfl rfl ⟨_, nw_at (sza2 _ _ _) _, rfl, ?_⟩
         exact ⟨_, rfl, ⟨_, rfl, TxR.below HA.out (bel3 _ _ _ _)⟩, bel3 _ _ _ _⟩)
      | (exfalso; have := HN.out; simp_all [sBl_inj])
  · have ev : runion A B = (⟨2, [], [], A.pr⟩, true) := by unfold runion; rw [if_neg (by omega), if_neg (by omega), if_pos ⟨h3, h4⟩, if_neg hn]
    rw [ev]
    have ee : ((sB A.nt).toList == (sB B.nt).toList) = false := by simp [sBl_inj, hn]
    have HN : Hid _ := hn
    clear ha hb h3 h4 ev hn
    go_enter Tryd.func18, Tryd.ntmps18
    go_wp2_with fail
    all_goals first
      | (refine ret_r2 (X := w.heap.size + 1 + 1) Tryd.results18 rfl rfl ⟨_, nw_at (sza2 _ _ _) _, rfl, ?_⟩
         exact ⟨_, rfl, ⟨_, rfl, TxR.nil _ _ _⟩, bel3 _ _ _ _⟩)
      | (exfalso; have := HN.out; simp_all [sBl_inj])
end Go.Proofs.YtknfipcegmajaaaDoor
namespace Go.Proofs.YtknfipcegmajaaaDoor
open Go.RowKit
set_option linter.unusedVariables false
set_option linter.unusedSimpArgs false

set_option maxRecDepth 8000 in
set_option maxHeartbeats 8000000 in
theorem runion_mixA (A B : Wd) (va vb : Value) (w : World) (ha : WdV w va A) (hb : WdV w vb B) (h3 : A.how = 3) (h4 : B.how = 2) (la : A.sp.length < 1000) (lb : B.sp.length < 1000) :
    Calls Tryd.prog 18 #[va, vb] w fun e w' => WbQ (runion A B) w e w' := by
  obtain ⟨sa, rfl, ha⟩ := ha
  obtain ⟨pa, ca, rfl, ha2⟩ := ha.len
  obtain ⟨sb, rfl, hb⟩ := hb
  obtain ⟨pb, cb, rfl, hb2⟩ := hb.len
  have ev : runion A B = runionO B A A.pr := by unfold runion; rw [if_neg (by omega), if_neg (by omega), if_neg (by omega)]; rw [if_pos h3]
  rw [ev]
  have dA1 : (A.how == 1) = false := by rw [h3]; rfl
  have dA2 : (A.how == 2) = false := by rw [h3]; rfl
  have dA3 : (A.how == 3) = true := by rw [h3]; rfl
  have dB1 : (B.how == 1) = false := by rw [h4]; rfl
  have dB2 : (B.how == 2) = true := by rw [h4]; rfl
  have dB3 : (B.how == 3) = false := by rw [h4]; rfl
  have hb0 : Below w.heap.size w (((((w.alloc (.cells #[.int .i64 A.how, .string (sB A.nt), .slice pa A.sp.length ca, .int .i64 A.pr] 29)).alloc (.cells #[.int .i64 B.how, .string (sB B.nt), .slice pb B.sp.length cb, .int .i64 B.pr] 29)).alloc (.cells #[.int .i64 0, .string ⟨#[]⟩, .slice none 0 0, .int .i64 0] 29)).alloc (.cells #[.int .i64 B.how, .string (sB B.nt), .slice pb B.sp.length cb, .int .i64 B.pr] 29)).alloc (.cells #[.int .i64 A.how, .string (sB A.nt), .slice pa A.sp.length ca, .int .i64 A.pr] 29)) := ((bel3 _ _ _ _).alloc (by rw [sza, sza, sza]; omega) _).alloc (by rw [sza, sza, sza, sza]; omega) _
  have hxr : (((((w.alloc (.cells #[.int .i64 A.how, .string (sB A.nt), .slice pa A.sp.length ca, .int .i64 A.pr] 29)).alloc (.cells #[.int .i64 B.how, .string (sB B.nt), .slice pb B.sp.length cb, .int .i64 B.pr] 29)).alloc (.cells #[.int .i64 0, .string ⟨#[]⟩, .slice none 0 0, .int .i64 0] 29)).alloc (.cells #[.int .i64 B.how, .string (sB B.nt), .slice pb B.sp.length cb, .int .i64 B.pr] 29)).alloc (.cells #[.int .i64 A.how, .string (sB A.nt), .slice pa A.sp.length ca, .int .i64 A.pr] 29)).heap[w.heap.size + 1 + 1]? = some (.cells #[.int .i64 0, .string ⟨#[]⟩, .slice none 0 0, .int .i64 0] 29 (0, 0)) := nw_below (nw_below (nw_at (sza2 _ _ _) _))
  have hxo : (((((w.alloc (.cells #[.int .i64 A.how, .string (sB A.nt), .slice pa A.sp.length ca, .int .i64 A.pr] 29)).alloc (.cells #[.int .i64 B.how, .string (sB B.nt), .slice pb B.sp.length cb, .int .i64 B.pr] 29)).alloc (.cells #[.int .i64 0, .string ⟨#[]⟩, .slice none 0 0, .int .i64 0] 29)).alloc (.cells #[.int .i64 B.how, .string (sB B.nt), .slice pb B.sp.length cb, .int .i64 B.pr] 29)).alloc (.cells #[.int .i64 A.how, .string (sB A.nt), .slice pa A.sp.length ca, .int .i64 A.pr] 29)).heap[w.heap.size + 1 + 1 + 1]? = some (.cells #[.int .i64 B.how, .string (sB B.nt), .slice pb B.sp.length cb, .int .i64 B.pr] 29 (0, 0)) := nw_below (nw_at (by rw [sza, sza, sza]) _)
  have hxt : (((((w.alloc (.cells #[.int .i64 A.how, .string (sB A.nt), .slice pa A.sp.length ca, .int .i64 A.pr] 29)).alloc (.cells #[.int .i64 B.how, .string (sB B.nt), .slice pb B.sp.length cb, .int .i64 B.pr] 29)).alloc (.cells #[.int .i64 0, .string ⟨#[]⟩, .slice none 0 0, .int .i64 0] 29)).alloc (.cells #[.int .i64 B.how, .string (sB B.nt), .slice pb B.sp.length cb, .int .i64 B.pr] 29)).alloc (.cells #[.int .i64 A.how, .string (sB A.nt), .slice pa A.sp.length ca, .int .i64 A.pr] 29)).heap[w.heap.size + 1 + 1 + 1 + 1]? = some (.cells #[.int .i64 A.how, .string (sB A.nt), .slice pa A.sp.length ca, .int .i64 A.pr] 29 (0, 0)) := nw_at (by rw [sza, sza, sza, sza]) _
  have HX : Hid _ := And.intro (ha.below hb0) (And.intro hb0 (And.intro hxr (And.intro hxo hxt)))
  clear ha hb h3 h4 hb0 hxr hxo hxt ev
  have en := emp_dec B.nt
  obtain ⟨R, hR⟩ : ∃ R, runionO B A A.pr = R := ⟨_, rfl⟩
  rw [hR]
  have HR : Hid _ := hR
  clear hR
  go_enter Tryd.func18, Tryd.ntmps18
  go_upto_region 20 with fail
  generalize (((((w.alloc (.cells #[.int .i64 A.how, .string (sB A.nt), .slice pa A.sp.length ca, .int .i64 A.pr] 29)).alloc (.cells #[.int .i64 B.how, .string (sB B.nt), .slice pb B.sp.length cb, .int .i64 B.pr] 29)).alloc (.cells #[.int .i64 0, .string ⟨#[]⟩, .slice none 0 0, .int .i64 0] 29)).alloc (.cells #[.int .i64 B.how, .string (sB B.nt), .slice pb B.sp.length cb, .int .i64 B.pr] 29)).alloc (.cells #[.int .i64 A.how, .string (sB A.nt), .slice pa A.sp.length ca, .int .i64 A.pr] 29)) = U at HX ⊢
  obtain ⟨⟨o0, o1, o2, o3⟩, _⟩ := blk4 HX.out.2.2.2.1
  obtain ⟨⟨t0, t1, t2, t3⟩, _⟩ := blk4 HX.out.2.2.2.2
  have hq1 := rallows_p A [] (wdV A (.slice pa A.sp.length ca)) U ⟨_, rfl, HX.out.1⟩ (by omega)
  have HQ1 : Hid _ := hq1
  clear hq1
  go_wp2_with fail
  refine Calls.mono HQ1.out ?_
  rintro e w1 ⟨rfl, hb1⟩
  have hxo := (hb1.block _ (lt_of HX.out.2.2.2.1)).trans HX.out.2.2.2.1
  have hxt := (hb1.block _ (lt_of HX.out.2.2.2.2)).trans HX.out.2.2.2.2
  have hxr := (hb1.block _ (lt_of HX.out.2.2.1)).trans HX.out.2.2.1
  obtain ⟨⟨o0, o1, o2, o3⟩, _⟩ := blk4 hxo
  obtain ⟨⟨t0, t1, t2, t3⟩, _⟩ := blk4 hxt
  obtain ⟨⟨c0, c1, c2, c3⟩, f0, f1, f2, f3⟩ := blk4 hxr
  have hq2 := rallows_p A B.nt (wdV A (.slice pa A.sp.length ca)) w1 ⟨_, rfl, HX.out.1.below hb1⟩ (by omega)
  have HB1 : Hid _ := And.intro hb1 (And.intro hq2 (And.intro hxo hxr))
  clear hb1 hxo hxt hxr hq2
  obtain ⟨n1, hn1⟩ : ∃ n1, rallows A [] = n1 := ⟨_, rfl⟩
  rw [hn1]
  have HN1 : Hid _ := hn1
  clear hn1
  by_cases hnt : B.nt = []
  · have en' : (sB B.nt).toList.isEmpty = true := by rw [en]; exact decide_eq_true hnt
    have HNT : Hid _ := hnt
    clear en hnt
    cases n1
    · have er : runionO B A A.pr = (⟨2, [], [], A.pr⟩, true) := by unfold runionO; rw [HN1.out, HNT.out]; simp
      have hr := HR.out.symm.trans er
      subst hr
      go_wp2_with fail
      refine ret_r2 (X := w.heap.size + 1 + 1) Tryd.results18 rfl rfl ⟨_, set4_heap _ _ _ _ HB1.out.2.2.2, rfl, ?_⟩
      exact ⟨_, rfl, ⟨_, rfl, TxR.nil _ _ _⟩, set4_bel _ _ _ _ (HX.out.2.1.trans (HB1.out.1.mono HX.out.2.1.size)) (by omega)⟩
    · have er : runionO B A A.pr = (⟨1, [], [], A.pr⟩, true) := by unfold runionO; rw [HN1.out, HNT.out]; simp
      have hr := HR.out.symm.trans er
      subst hr
      go_wp2_with fail
      refine ret_r2 (X := w.heap.size + 1 + 1) Tryd.results18 rfl rfl ⟨_, set4_heap _ _ _ _ HB1.out.2.2.2, rfl, ?_⟩
      exact ⟨_, rfl, ⟨_, rfl, TxR.nil _ _ _⟩, set4_bel _ _ _ _ (HX.out.2.1.trans (HB1.out.1.mono HX.out.2.1.size)) (by omega)⟩
  · have en' : (sB B.nt).toList.isEmpty = false := by rw [en]; exact decide_eq_false hnt
    have HNT : Hid _ := hnt
    clear en hnt
    go_wp2_with fail
    refine Calls.mono HB1.out.2.1 ?_
    rintro e w2 ⟨rfl, hb2'⟩
    have hxo := (hb2'.block _ (lt_of HB1.out.2.2.1)).trans HB1.out.2.2.1
    have hxr := (hb2'.block _ (lt_of HB1.out.2.2.2)).trans HB1.out.2.2.2
    clear c0 c1 c2 c3 f0 f1 f2 f3 o0 o1 o2 o3 t0 t1 t2 t3
    obtain ⟨⟨o0, o1, o2, o3⟩, _⟩ := blk4 hxo
    obtain ⟨⟨c0, c1, c2, c3⟩, f0, f1, f2, f3⟩ := blk4 hxr
    have H2 : Hid _ := And.intro hxr (HX.out.2.1.trans ((HB1.out.1.trans (hb2'.mono HB1.out.1.size)).mono HX.out.2.1.size))
    clear hxo hxr hb2'
    obtain ⟨n2, hn2⟩ : ∃ n2, rallows A B.nt = n2 := ⟨_, rfl⟩
    rw [hn2]
    have HN2 : Hid _ := hn2
    clear hn2
    cases n1 <;> cases n2
    · have er : runionO B A A.pr = (⟨2, B.nt, [], A.pr⟩, true) := by unfold runionO; rw [HN1.out, HN2.out]; simp [HNT.out]
      have hr := HR.out.symm.trans er
      subst hr
      go_wp2_with fail
      refine ret_r2 (X := w.heap.size + 1 + 1) Tryd.results18 rfl rfl ⟨_, set4_heap _ _ _ _ H2.out.1, rfl, ?_⟩
      exact ⟨_, rfl, ⟨_, rfl, TxR.nil _ _ _⟩, set4_bel _ _ _ _ H2.out.2 (by omega)⟩
    · have er : runionO B A A.pr = (⟨2, [], [], A.pr⟩, true) := by unfold runionO; rw [HN1.out, HN2.out]; simp
      have hr := HR.out.symm.trans er
      subst hr
      go_wp2_with fail
      refine ret_r2 (X := w.heap.size + 1 + 1) Tryd.results18 rfl rfl ⟨_, set4_heap _ _ _ _ H2.out.1, rfl, ?_⟩
      exact ⟨_, rfl, ⟨_, rfl, TxR.nil _ _ _⟩, set4_bel _ _ _ _ H2.out.2 (by omega)⟩
    · have er : runionO B A A.pr = (Wd.zero, false) := by unfold runionO; rw [HN1.out, HN2.out]; simp; exact HNT.out
      have hr := HR.out.symm.trans er
      subst hr
      go_wp2_with fail
      refine ret_r2 (X := w.heap.size + 1 + 1) Tryd.results18 rfl rfl ⟨_, set4_heap _ _ _ _ H2.out.1, rfl, ?_⟩
      exact ⟨_, rfl, ⟨_, rfl, TxR.nil _ _ _⟩, set4_bel _ _ _ _ H2.out.2 (by omega)⟩
    · have er : runionO B A A.pr = (⟨1, [], [], A.pr⟩, true) := by unfold runionO; rw [HN1.out, HN2.out]; simp
      have hr := HR.out.symm.trans er
      subst hr
      go_wp2_with fail
      refine ret_r2 (X := w.heap.size + 1 + 1) Tryd.results18 rfl rfl ⟨_, set4_heap _ _ _ _ H2.out.1, rfl, ?_⟩
      exact ⟨_, rfl, ⟨_, rfl, TxR.nil _ _ _⟩, set4_bel _ _ _ _ H2.out.2 (by omega)⟩
set_option maxRecDepth 8000 in
set_option maxHeartbeats 8000000 in
theorem runion_mixB (A B : Wd) (va vb : Value) (w : World) (ha : WdV w va A) (hb : WdV w vb B) (h3 : A.how = 2) (h4 : B.how = 3) (la : A.sp.length < 1000) (lb : B.sp.length < 1000) :
    Calls Tryd.prog 18 #[va, vb] w fun e w' => WbQ (runion A B) w e w' := by
  obtain ⟨sa, rfl, ha⟩ := ha
  obtain ⟨pa, ca, rfl, ha2⟩ := ha.len
  obtain ⟨sb, rfl, hb⟩ := hb
  obtain ⟨pb, cb, rfl, hb2⟩ := hb.len
  have ev : runion A B = runionO A B A.pr := by unfold runion; rw [if_neg (by omega), if_neg (by omega), if_neg (by omega)]; rw [if_neg (by omega)]
  rw [ev]
  have dA1 : (A.how == 1) = false := by rw [h3]; rfl
  have dA2 : (A.how == 2) = true := by rw [h3]; rfl
  have dA3 : (A.how == 3) = false := by rw [h3]; rfl
  have dB1 : (B.how == 1) = false := by rw [h4]; rfl
  have dB2 : (B.how == 2) = false := by rw [h4]; rfl
  have dB3 : (B.how == 3) = true := by rw [h4]; rfl
  have hb0 : Below w.heap.size w (((((w.alloc (.cells #[.int .i64 A.how, .string (sB A.nt), .slice pa A.sp.length ca, .int .i64 A.pr] 29)).alloc (.cells #[.int .i64 B.how, .string (sB B.nt), .slice pb B.sp.length cb, .int .i64 B.pr] 29)).alloc (.cells #[.int .i64 0, .string ⟨#[]⟩, .slice none 0 0, .int .i64 0] 29)).alloc (.cells #[.int .i64 A.how, .string (sB A.nt), .slice pa A.sp.length ca, .int .i64 A.pr] 29)).alloc (.cells #[.int .i64 B.how, .string (sB B.nt), .slice pb B.sp.length cb, .int .i64 B.pr] 29)) := ((bel3 _ _ _ _).alloc (by rw [sza, sza, sza]; omega) _).alloc (by rw [sza, sza, sza, sza]; omega) _
  have hxr : (((((w.alloc (.cells #[.int .i64 A.how, .string (sB A.nt), .slice pa A.sp.length ca, .int .i64 A.pr] 29)).alloc (.cells #[.int .i64 B.how, .string (sB B.nt), .slice pb B.sp.length cb, .int .i64 B.pr] 29)).alloc (.cells #[.int .i64 0, .string ⟨#[]⟩, .slice none 0 0, .int .i64 0] 29)).alloc (.cells #[.int .i64 A.how, .string (sB A.nt), .slice pa A.sp.length ca, .int .i64 A.pr] 29)).alloc (.cells #[.int .i64 B.how, .string (sB B.nt), .slice pb B.sp.length cb, .int .i64 B.pr] 29)).heap[w.heap.size + 1 + 1]? = some (.cells #[.int .i64 0, .string ⟨#[]⟩, .slice none 0 0, .int .i64 0] 29 (0, 0)) := nw_below (nw_below (nw_at (sza2 _ _ _) _))
  have hxo : (((((w.alloc (.cells #[.int .i64 A.how, .string (sB A.nt), .slice pa A.sp.length ca, .int .i64 A.pr] 29)).alloc (.cells #[.int .i64 B.how, .string (sB B.nt), .slice pb B.sp.length cb, .int .i64 B.pr] 29)).alloc (.cells #[.int .i64 0, .string ⟨#[]⟩, .slice none 0 0, .int .i64 0] 29)).alloc (.cells #[.int .i64 A.how, .string (sB A.nt), .slice pa A.sp.length ca, .int .i64 A.pr] 29)).alloc (.cells #[.int .i64 B.how, .string (sB B.nt), .slice pb B.sp.length cb, .int .i64 B.pr] 29)).heap[w.heap.size + 1 + 1 + 1]? = some (.cells #[.int .i64 A.how, .string (sB A.nt), .slice pa A.sp.length ca, .int .i64 A.pr] 29 (0, 0)) := nw_below (nw_at (by rw [sza, sza, sza]) _)
  have hxt : (((((w.alloc (.cells #[.int .i64 A.how, .string (sB A.nt), .slice pa A.sp.length ca, .int .i64 A.pr] 29)).alloc (.cells #[.int .i64 B.how, .string (sB B.nt), .slice pb B.sp.length cb, .int .i64 B.pr] 29)).alloc (.cells #[.int .i64 0, .string ⟨#[]⟩, .slice none 0 0, .int .i64 0] 29)).alloc (.cells #[.int .i64 A.how, .string (sB A.nt), .slice pa A.sp.length ca, .int .i64 A.pr] 29)).alloc (.cells #[.int .i64 B.how, .string (sB B.nt), .slice pb B.sp.length cb, .int .i64 B.pr] 29)).heap[w.heap.size + 1 + 1 + 1 + 1]? = some (.cells #[.int .i64 B.how, .string (sB B.nt), .slice pb B.sp.length cb, .int .i64 B.pr] 29 (0, 0)) := nw_at (by rw [sza, sza, sza, sza]) _
  have HX : Hid _ := And.intro (hb.below hb0) (And.intro hb0 (And.intro hxr (And.intro hxo hxt)))
  clear ha hb h3 h4 hb0 hxr hxo hxt ev
  have en := emp_dec A.nt
  obtain ⟨R, hR⟩ : ∃ R, runionO A B A.pr = R := ⟨_, rfl⟩
  rw [hR]
  have HR : Hid _ := hR
  clear hR
  go_enter Tryd.func18, Tryd.ntmps18
  go_upto_region 20 with fail
  generalize (((((w.alloc (.cells #[.int .i64 A.how, .string (sB A.nt), .slice pa A.sp.length ca, .int .i64 A.pr] 29)).alloc (.cells #[.int .i64 B.how, .string (sB B.nt), .slice pb B.sp.length cb, .int .i64 B.pr] 29)).alloc (.cells #[.int .i64 0, .string ⟨#[]⟩, .slice none 0 0, .int .i64 0] 29)).alloc (.cells #[.int .i64 A.how, .string (sB A.nt), .slice pa A.sp.length ca, .int .i64 A.pr] 29)).alloc (.cells #[.int .i64 B.how, .string (sB B.nt), .slice pb B.sp.length cb, .int .i64 B.pr] 29)) = U at HX ⊢
  obtain ⟨⟨o0, o1, o2, o3⟩, _⟩ := blk4 HX.out.2.2.2.1
  obtain ⟨⟨t0, t1, t2, t3⟩, _⟩ := blk4 HX.out.2.2.2.2
  have hq1 := rallows_p B [] (wdV B (.slice pb B.sp.length cb)) U ⟨_, rfl, HX.out.1⟩ (by omega)
  have HQ1 : Hid _ := hq1
  clear hq1
  go_wp2_with fail
  refine Calls.mono HQ1.out ?_
  rintro e w1 ⟨rfl, hb1⟩
  have hxo := (hb1.block _ (lt_of HX.out.2.2.2.1)).trans HX.out.2.2.2.1
  have hxt := (hb1.block _ (lt_of HX.out.2.2.2.2)).trans HX.out.2.2.2.2
  have hxr := (hb1.block _ (lt_of HX.out.2.2.1)).trans HX.out.2.2.1
  obtain ⟨⟨o0, o1, o2, o3⟩, _⟩ := blk4 hxo
  obtain ⟨⟨t0, t1, t2, t3⟩, _⟩ := blk4 hxt
  obtain ⟨⟨c0, c1, c2, c3⟩, f0, f1, f2, f3⟩ := blk4 hxr
  have hq2 := rallows_p B A.nt (wdV B (.slice pb B.sp.length cb)) w1 ⟨_, rfl, HX.out.1.below hb1⟩ (by omega)
  have HB1 : Hid _ := And.intro hb1 (And.intro hq2 (And.intro hxo hxr))
  clear hb1 hxo hxt hxr hq2
  obtain ⟨n1, hn1⟩ : ∃ n1, rallows B [] = n1 := ⟨_, rfl⟩
  rw [hn1]
  have HN1 : Hid _ := hn1
  clear hn1
  by_cases hnt : A.nt = []
  · have en' : (sB A.nt).toList.isEmpty = true := by rw [en]; exact decide_eq_true hnt
    have HNT : Hid _ := hnt
    clear en hnt
    cases n1
    · have er : runionO A B A.pr = (⟨2, [], [], A.pr⟩, true) := by unfold runionO; rw [HN1.out, HNT.out]; simp
      have hr := HR.out.symm.trans er
      subst hr
      go_wp2_with fail
      refine ret_r2 (X := w.heap.size + 1 + 1) Tryd.results18 rfl rfl ⟨_, set4_heap _ _ _ _ HB1.out.2.2.2, rfl, ?_⟩
      exact ⟨_, rfl, ⟨_, rfl, TxR.nil _ _ _⟩, set4_bel _ _ _ _ (HX.out.2.1.trans (HB1.out.1.mono HX.out.2.1.size)) (by omega)⟩
    · have er : runionO A B A.pr = (⟨1, [], [], A.pr⟩, true) := by unfold runionO; rw [HN1.out, HNT.out]; simp
      have hr := HR.out.symm.trans er
      subst hr
      go_wp2_with fail
      refine ret_r2 (X := w.heap.size + 1 + 1) Tryd.results18 rfl rfl ⟨_, set4_heap _ _ _ _ HB1.out.2.2.2, rfl, ?_⟩
      exact ⟨_, rfl, ⟨_, rfl, TxR.nil _ _ _⟩, set4_bel _ _ _ _ (HX.out.2.1.trans (HB1.out.1.mono HX.out.2.1.size)) (by omega)⟩
  · have en' : (sB A.nt).toList.isEmpty = false := by rw [en]; exact decide_eq_false hnt
    have HNT : Hid _ := hnt
    clear en hnt
    go_wp2_with fail
    refine Calls.mono HB1.out.2.1 ?_
    rintro e w2 ⟨rfl, hb2'⟩
    have hxo := (hb2'.block _ (lt_of HB1.out.2.2.1)).trans HB1.out.2.2.1
    have hxr := (hb2'.block _ (lt_of HB1.out.2.2.2)).trans HB1.out.2.2.2
    clear c0 c1 c2 c3 f0 f1 f2 f3 o0 o1 o2 o3 t0 t1 t2 t3
    obtain ⟨⟨o0, o1, o2, o3⟩, _⟩ := blk4 hxo
    obtain ⟨⟨c0, c1, c2, c3⟩, f0, f1, f2, f3⟩ := blk4 hxr
    have H2 : Hid _ := And.intro hxr (HX.out.2.1.trans ((HB1.out.1.trans (hb2'.mono HB1.out.1.size)).mono HX.out.2.1.size))
    clear hxo hxr hb2'
    obtain ⟨n2, hn2⟩ : ∃ n2, rallows B A.nt = n2 := ⟨_, rfl⟩
    rw [hn2]
    have HN2 : Hid _ := hn2
    clear hn2
    cases n1 <;> cases n2
    · have er : runionO A B A.pr = (⟨2, A.nt, [], A.pr⟩, true) := by unfold runionO; rw [HN1.out, HN2.out]; simp [HNT.out]
      have hr := HR.out.symm.trans er
      subst hr
      go_wp2_with fail
      refine ret_r2 (X := w.heap.size + 1 + 1) Tryd.results18 rfl rfl ⟨_, set4_heap _ _ _ _ H2.out.1, rfl, ?_⟩
      exact ⟨_, rfl, ⟨_, rfl, TxR.nil _ _ _⟩, set4_bel _ _ _ _ H2.out.2 (by omega)⟩
    · have er : runionO A B A.pr = (⟨2, [], [], A.pr⟩, true) := by unfold runionO; rw [HN1.out, HN2.out]; simp
      have hr := HR.out.symm.trans er
      subst hr
      go_wp2_with fail
      refine ret_r2 (X := w.heap.size + 1 + 1) Tryd.results18 rfl rfl ⟨_, set4_heap _ _ _ _ H2.out.1, rfl, ?_⟩
      exact ⟨_, rfl, ⟨_, rfl, TxR.nil _ _ _⟩, set4_bel _ _ _ _ H2.out.2 (by omega)⟩
    · have er : runionO A B A.pr = (Wd.zero, false) := by unfold runionO; rw [HN1.out, HN2.out]; simp; exact HNT.out
      have hr := HR.out.symm.trans er
      subst hr
      go_wp2_with fail
      refine ret_r2 (X := w.heap.size + 1 + 1) Tryd.results18 rfl rfl ⟨_, set4_heap _ _ _ _ H2.out.1, rfl, ?_⟩
      exact ⟨_, rfl, ⟨_, rfl, TxR.nil _ _ _⟩, set4_bel _ _ _ _ H2.out.2 (by omega)⟩
    · have er : runionO A B A.pr = (⟨1, [], [], A.pr⟩, true) := by unfold runionO; rw [HN1.out, HN2.out]; simp
      have hr := HR.out.symm.trans er
      subst hr
      go_wp2_with fail
      refine ret_r2 (X := w.heap.size + 1 + 1) Tryd.results18 rfl rfl ⟨_, set4_heap _ _ _ _ H2.out.1, rfl, ?_⟩
      exact ⟨_, rfl, ⟨_, rfl, TxR.nil _ _ _⟩, set4_bel _ _ _ _ H2.out.2 (by omega)⟩
theorem runion_p (A B : Wd) (va vb : Value) (w : World) (ha : WdV w va A) (hb : WdV w vb B) (wa : Wr A) (wb : Wr B) (la : A.sp.length < 1000) (lb : B.sp.length < 1000) :
    Calls Tryd.prog 18 #[va, vb] w fun e w' => WbQ (runion A B) w e w' := by
  have h1 := wa.how
  have h2 := wb.how
  by_cases h : A.how = 1 ∨ B.how = 1
  · exact runion_every A B va vb w ha hb h
  · by_cases h3 : A.how = 3
    · by_cases h4 : B.how = 3
      · exact runion_these A B va vb w ha hb wa.inc h3 h4 la lb
      · exact runion_mixA A B va vb w ha hb h3 (by omega) la lb
    · by_cases h4 : B.how = 3
      · exact runion_mixB A B va vb w ha hb (by omega) h4 la lb
      · exact runion_other A B va vb w ha hb (by omega) (by omega)
end Go.Proofs.YtknfipcegmajaaaDoor
namespace Go.Proofs.YtknfipcegmajaaaDoor
open Go.RowKit
set_option linter.unusedVariables false
set_option linter.unusedSimpArgs false

abbrev oRz : Obj := .cells #[.int .i64 0, .string ⟨#[]⟩, .slice none 0 0, .int .i64 0] 29
/-- A wildcard of the second telling in a block that is new since. -/
def RzF (U : World) (T : Nat) (X : Wd) (sl : Value) (W : World) : Prop := W.heap[T]? = some (.cells #[.int .i64 X.how, .string (sB X.nt), sl, .int .i64 X.pr] 29 (0, 0)) ∧ TxR W sl X.sp ∧ Below U.heap.size U W ∧ U.heap.size ≤ T
theorem rz_set {U W : World} {T : Nat} {X : Wd} {sl : Value} (hT : W.heap[T]? = some oRz) (hl : U.heap.size ≤ T) (hB : Below U.heap.size U W) (ht : TxR W sl X.sp) (ho : X.sp = [] ∨ X.nt = []) : RzF U T X sl ((((W.setCell ⟨T, 0, none⟩ (.int .i64 X.how)).setCell ⟨T, 1, none⟩ (.string (sB X.nt))).setCell ⟨T, 2, none⟩ sl).setCell ⟨T, 3, none⟩ (.int .i64 X.pr)) :=
  ⟨set4_heap _ _ _ _ hT, set4_resR _ _ _ _ ht hT (ho.imp id fun h => by rw [h, sB_nil]), (((hB.setCell hl _).setCell hl _).setCell hl _).setCell hl _, hl⟩
theorem rz_new {U W : World} {X : Wd} {sl : Value} (hB : Below U.heap.size U W) (ht : TxR W sl X.sp) : RzF U W.heap.size X sl (W.alloc (.cells #[.int .i64 X.how, .string (sB X.nt), sl, .int .i64 X.pr] 29)) :=
  ⟨nw_heap _ _, ht.below (bel1 _ _), hB.alloc hB.size _, hB.size⟩
theorem neY3 {a b c Y : Nat} (h : b ≤ Y) (hx : a + 1 < b) (hc : c < b) : ¬ a = Y ∧ ¬ Y = a ∧ ¬ a + 1 = Y ∧ ¬ Y = a + 1 ∧ ¬ c = Y ∧ ¬ Y = c := by omega
theorem bothP_or (A B : Wd) : (bothP A B).1.sp = [] ∨ (bothP A B).1.nt = [] := said_nt _ _
theorem unionP_or (A B : Wd) : (unionP A B).1.sp = [] ∨ (unionP A B).1.nt = [] := said_nt _ _
set_option maxRecDepth 8000 in
set_option maxHeartbeats 16000000 in
theorem pairs_s (A B : Wd) (x : Tx) (va vb : Value) (w : World) (ha : WdV w va A) (hb : WdV w vb B) (la : (A.sp.length ≤ maxLen ∧ (∀ y ∈ A.sp, y.length ≤ maxLen) ∧ A.nt.length ≤ maxLen)) (lb : (B.sp.length ≤ maxLen ∧ (∀ y ∈ B.sp, y.length ≤ maxLen) ∧ B.nt.length ≤ maxLen)) (lx : x.length ≤ maxLen) :
    Calls Tryd.prog 4 #[va, vb, .string (sB x)] w fun e w' => e = .returned (.bool true) ∧ Below w.heap.size w w' := by
  obtain ⟨sa, rfl, ha⟩ := ha
  obtain ⟨pa, cap, rfl, _⟩ := ha.len
  obtain ⟨sb, rfl, hb⟩ := hb
  obtain ⟨pb, cbp, rfl, _⟩ := hb.len
  have hxa : ((w.alloc (.cells #[.int .i64 A.how, .string (sB A.nt), .slice pa A.sp.length cap, .int .i64 A.pr] 25)).alloc (.cells #[.int .i64 B.how, .string (sB B.nt), .slice pb B.sp.length cbp, .int .i64 B.pr] 25)).heap[w.heap.size]? = some (.cells #[.int .i64 A.how, .string (sB A.nt), .slice pa A.sp.length cap, .int .i64 A.pr] 25 (0, 0)) := nw_below (nw_heap _ _)
  have hxb : ((w.alloc (.cells #[.int .i64 A.how, .string (sB A.nt), .slice pa A.sp.length cap, .int .i64 A.pr] 25)).alloc (.cells #[.int .i64 B.how, .string (sB B.nt), .slice pb B.sp.length cbp, .int .i64 B.pr] 25)).heap[w.heap.size + 1]? = some (.cells #[.int .i64 B.how, .string (sB B.nt), .slice pb B.sp.length cbp, .int .i64 B.pr] 25 (0, 0)) := nw_at (sza _ _) _
  have hb0 : Below w.heap.size w ((w.alloc (.cells #[.int .i64 A.how, .string (sB A.nt), .slice pa A.sp.length cap, .int .i64 A.pr] 25)).alloc (.cells #[.int .i64 B.how, .string (sB B.nt), .slice pb B.sp.length cbp, .int .i64 B.pr] 25)) := bel2 _ _ _
  have HX : Hid _ := And.intro hxa hxb
  have HR : Hid _ := And.intro (ha.below hb0) (And.intro (hb.below hb0) hb0)
  have HL : Hid _ := And.intro la lb
  have hxs := sB_size x
  unfold maxLen at lx
  clear hxa hxb hb0 ha hb la lb
  go_enter Tryd.func4, Tryd.ntmps4
  go_upto_region 1 with fail
  generalize ((w.alloc (.cells #[.int .i64 A.how, .string (sB A.nt), .slice pa A.sp.length cap, .int .i64 A.pr] 25)).alloc (.cells #[.int .i64 B.how, .string (sB B.nt), .slice pb B.sp.length cbp, .int .i64 B.pr] 25)) = U at HX HR ⊢
  have HK : Hid (∀ W, Below U.heap.size U W → (W.cell? ⟨w.heap.size, 0, none⟩ = some (.int .i64 A.how) ∧ W.cell? ⟨w.heap.size, 1, none⟩ = some (.string (sB A.nt)) ∧ W.cell? ⟨w.heap.size, 2, none⟩ = some (.slice pa A.sp.length cap) ∧ W.cell? ⟨w.heap.size, 3, none⟩ = some (.int .i64 A.pr) ∧ W.cell? ⟨w.heap.size + 1, 0, none⟩ = some (.int .i64 B.how) ∧ W.cell? ⟨w.heap.size + 1, 1, none⟩ = some (.string (sB B.nt)) ∧ W.cell? ⟨w.heap.size + 1, 2, none⟩ = some (.slice pb B.sp.length cbp) ∧ W.cell? ⟨w.heap.size + 1, 3, none⟩ = some (.int .i64 B.pr))) := fun W hW => by
    obtain ⟨⟨fa0, fa1, fa2, fa3⟩, _⟩ := blk4 ((hW.block _ (lt_of HX.out.1)).trans HX.out.1)
    obtain ⟨⟨fb0, fb1, fb2, fb3⟩, _⟩ := blk4 ((hW.block _ (lt_of HX.out.2)).trans HX.out.2)
    exact ⟨fa0, fa1, fa2, fa3, fb0, fb1, fb2, fb3⟩
  have HB : Hid (Below U.heap.size U U) := Below.refl _ _
  obtain ⟨fa0, fa1, fa2, fa3, fb0, fb1, fb2, fb3⟩ := HK.out U HB.out
  by_cases h0 : fewB A = true
  rotate_left
  · have hf : fewB A = false := by simpa using h0
    go_wp2_with (first
      | (go_at_call 7; (with_reducible refine Calls.mono (known_p _) ?_); rintro e w1 ⟨rfl, hb1⟩; have hbb := HB.out.trans (hb1.mono HB.out.size); clear HB fa0 fa1 fa2 fa3 fb0 fb1 fb2 fb3; obtain ⟨fa0, fa1, fa2, fa3, fb0, fb1, fb2, fb3⟩ := HK.out _ hbb; have HB : Hid _ := hbb; clear hbb hb1)
      | (go_at_call 12; have hq := few_p A (wdV A (.slice pa A.sp.length cap)) _ ⟨_, rfl, TxR.below HR.out.1 HB.out⟩ HL.out.1.1 HL.out.1.2.1 HL.out.1.2.2; rw [hf] at hq; (with_reducible refine Calls.mono hq ?_); clear hq; rintro e w2 ⟨rfl, hb2⟩; have hbb := HB.out.trans (hb2.mono HB.out.size); clear HB fa0 fa1 fa2 fa3 fb0 fb1 fb2 fb3; obtain ⟨fa0, fa1, fa2, fa3, fb0, fb1, fb2, fb3⟩ := HK.out _ hbb; have HB : Hid _ := hbb; clear hbb hb2))
    all_goals
      go_ret
      exact ⟨rfl, HR.out.2.2.trans (HB.out.mono HR.out.2.2.size)⟩
  by_cases h1 : fewB B = true
  rotate_left
  · have hf : fewB B = false := by simpa using h1
    go_wp2_with (first
      | (go_at_call 7; (with_reducible refine Calls.mono (known_p _) ?_); rintro e w1 ⟨rfl, hb1⟩; have hbb := HB.out.trans (hb1.mono HB.out.size); clear HB fa0 fa1 fa2 fa3 fb0 fb1 fb2 fb3; obtain ⟨fa0, fa1, fa2, fa3, fb0, fb1, fb2, fb3⟩ := HK.out _ hbb; have HB : Hid _ := hbb; clear hbb hb1)
      | (go_at_call 12; have hq := few_p A (wdV A (.slice pa A.sp.length cap)) _ ⟨_, rfl, TxR.below HR.out.1 HB.out⟩ HL.out.1.1 HL.out.1.2.1 HL.out.1.2.2; rw [h0] at hq; (with_reducible refine Calls.mono hq ?_); clear hq; rintro e w2 ⟨rfl, hb2⟩; have hbb := HB.out.trans (hb2.mono HB.out.size); clear HB fa0 fa1 fa2 fa3 fb0 fb1 fb2 fb3; obtain ⟨fa0, fa1, fa2, fa3, fb0, fb1, fb2, fb3⟩ := HK.out _ hbb; have HB : Hid _ := hbb; clear hbb hb2)
      | (go_at_call 12; have hq := few_p B (wdV B (.slice pb B.sp.length cbp)) _ ⟨_, rfl, TxR.below HR.out.2.1 HB.out⟩ HL.out.2.1 HL.out.2.2.1 HL.out.2.2.2; rw [hf] at hq; (with_reducible refine Calls.mono hq ?_); clear hq; rintro e w2 ⟨rfl, hb2⟩; have hbb := HB.out.trans (hb2.mono HB.out.size); clear HB fa0 fa1 fa2 fa3 fb0 fb1 fb2 fb3; obtain ⟨fa0, fa1, fa2, fa3, fb0, fb1, fb2, fb3⟩ := HK.out _ hbb; have HB : Hid _ := hbb; clear hbb hb2))
    all_goals
      go_ret
      exact ⟨rfl, HR.out.2.2.trans (HB.out.mono HR.out.2.2.size)⟩
  by_cases hx3 : 300 < x.length
  · have d3 : decide ((sB x).size > 300) = true := by rw [hxs]; exact decide_eq_true hx3
    go_wp2_with (first
      | (go_at_call 7; (with_reducible refine Calls.mono (known_p _) ?_); rintro e w1 ⟨rfl, hb1⟩; have hbb := HB.out.trans (hb1.mono HB.out.size); clear HB fa0 fa1 fa2 fa3 fb0 fb1 fb2 fb3; obtain ⟨fa0, fa1, fa2, fa3, fb0, fb1, fb2, fb3⟩ := HK.out _ hbb; have HB : Hid _ := hbb; clear hbb hb1)
      | (go_at_call 12; have hq := few_p A (wdV A (.slice pa A.sp.length cap)) _ ⟨_, rfl, TxR.below HR.out.1 HB.out⟩ HL.out.1.1 HL.out.1.2.1 HL.out.1.2.2; rw [h0] at hq; (with_reducible refine Calls.mono hq ?_); clear hq; rintro e w2 ⟨rfl, hb2⟩; have hbb := HB.out.trans (hb2.mono HB.out.size); clear HB fa0 fa1 fa2 fa3 fb0 fb1 fb2 fb3; obtain ⟨fa0, fa1, fa2, fa3, fb0, fb1, fb2, fb3⟩ := HK.out _ hbb; have HB : Hid _ := hbb; clear hbb hb2)
      | (go_at_call 12; have hq := few_p B (wdV B (.slice pb B.sp.length cbp)) _ ⟨_, rfl, TxR.below HR.out.2.1 HB.out⟩ HL.out.2.1 HL.out.2.2.1 HL.out.2.2.2; rw [h1] at hq; (with_reducible refine Calls.mono hq ?_); clear hq; rintro e w2 ⟨rfl, hb2⟩; have hbb := HB.out.trans (hb2.mono HB.out.size); clear HB fa0 fa1 fa2 fa3 fb0 fb1 fb2 fb3; obtain ⟨fa0, fa1, fa2, fa3, fb0, fb1, fb2, fb3⟩ := HK.out _ hbb; have HB : Hid _ := hbb; clear hbb hb2))
    all_goals
      go_ret
      exact ⟨rfl, HR.out.2.2.trans (HB.out.mono HR.out.2.2.size)⟩
  obtain ⟨ra, hra⟩ : ∃ r, rgtB A = r := ⟨_, rfl⟩
  obtain ⟨rb, hrb⟩ : ∃ r, rgtB B = r := ⟨_, rfl⟩
  have lA := few_le h0
  have lB := few_le h1
  go_upto_region 5 with (first
    | (go_at_call 7; (with_reducible refine Calls.mono (known_p _) ?_); rintro e w1 ⟨rfl, hb1⟩; have hbb := HB.out.trans (hb1.mono HB.out.size); clear HB fa0 fa1 fa2 fa3 fb0 fb1 fb2 fb3; obtain ⟨fa0, fa1, fa2, fa3, fb0, fb1, fb2, fb3⟩ := HK.out _ hbb; have HB : Hid _ := hbb; clear hbb hb1)
    | (go_at_call 12; have hq := few_p A (wdV A (.slice pa A.sp.length cap)) _ ⟨_, rfl, TxR.below HR.out.1 HB.out⟩ HL.out.1.1 HL.out.1.2.1 HL.out.1.2.2; rw [h0] at hq; (with_reducible refine Calls.mono hq ?_); clear hq; rintro e w2 ⟨rfl, hb2⟩; have hbb := HB.out.trans (hb2.mono HB.out.size); clear HB fa0 fa1 fa2 fa3 fb0 fb1 fb2 fb3; obtain ⟨fa0, fa1, fa2, fa3, fb0, fb1, fb2, fb3⟩ := HK.out _ hbb; have HB : Hid _ := hbb; clear hbb hb2)
    | (go_at_call 12; have hq := few_p B (wdV B (.slice pb B.sp.length cbp)) _ ⟨_, rfl, TxR.below HR.out.2.1 HB.out⟩ HL.out.2.1 HL.out.2.2.1 HL.out.2.2.2; rw [h1] at hq; (with_reducible refine Calls.mono hq ?_); clear hq; rintro e w2 ⟨rfl, hb2⟩; have hbb := HB.out.trans (hb2.mono HB.out.size); clear HB fa0 fa1 fa2 fa3 fb0 fb1 fb2 fb3; obtain ⟨fa0, fa1, fa2, fa3, fb0, fb1, fb2, fb3⟩ := HK.out _ hbb; have HB : Hid _ := hbb; clear hbb hb2))
  go_cut [43] (fun v wx => v = .bool false ∧ Below U.heap.size U wx)
  case first =>
   as_aux_lemma =>
    have hbd := HB.out.drew
    clear HB
    have HB : Hid (Below U.heap.size U _) := hbd
    clear hbd
    go_region_held3 (fun W => W.cell? ⟨w.heap.size, 0, none⟩ = some (.int .i64 A.how) ∧ W.cell? ⟨w.heap.size, 1, none⟩ = some (.string (sB A.nt)) ∧ W.cell? ⟨w.heap.size, 2, none⟩ = some (.slice pa A.sp.length cap) ∧ W.cell? ⟨w.heap.size, 3, none⟩ = some (.int .i64 A.pr) ∧ W.cell? ⟨w.heap.size + 1, 0, none⟩ = some (.int .i64 B.how) ∧ W.cell? ⟨w.heap.size + 1, 1, none⟩ = some (.string (sB B.nt)) ∧ W.cell? ⟨w.heap.size + 1, 2, none⟩ = some (.slice pb B.sp.length cbp) ∧ W.cell? ⟨w.heap.size + 1, 3, none⟩ = some (.int .i64 B.pr)) (first | exact ⟨fa0, fa1, fa2, fa3, fb0, fb1, fb2, fb3⟩ | go_keep) (first
      | (go_at_call 11; have hq := right_p A (wdV A (.slice pa A.sp.length cap)) _ ⟨_, rfl, TxR.below HR.out.1 HB.out⟩ HL.out.1.1; rw [hra] at hq; (with_reducible refine Calls.mono hq ?_); clear hq; rintro e w3 ⟨rfl, hb3⟩; have hbb := HB.out.trans (hb3.mono HB.out.size); clear HB fa0 fa1 fa2 fa3 fb0 fb1 fb2 fb3; obtain ⟨fa0, fa1, fa2, fa3, fb0, fb1, fb2, fb3⟩ := HK.out _ hbb; have HB : Hid _ := hbb; clear hbb hb3)
      | (go_at_call 14; have hq := of_p A (wdV A (.slice pa A.sp.length cap)) _ ⟨_, rfl, TxR.below HR.out.1 HB.out⟩; (with_reducible refine Calls.mono hq ?_); clear hq; rintro e w4 ⟨v4, rfl, hw4, hb4⟩; obtain ⟨o4, d4, rfl⟩ := hw4.form; have HOA : Hid (WdV _ _ A) := hw4; clear hw4; have hbb := HB.out.trans (hb4.mono HB.out.size); clear HB fa0 fa1 fa2 fa3 fb0 fb1 fb2 fb3; obtain ⟨fa0, fa1, fa2, fa3, fb0, fb1, fb2, fb3⟩ := HK.out _ hbb; have HB : Hid _ := hbb; clear hbb hb4)
      | (go_at_call 13; have hq := rright_p A (wdV A (.slice o4 A.sp.length d4)) _ HOA.out (by omega); rw [hra] at hq; (with_reducible refine Calls.mono hq ?_); clear hq; rintro e w5 ⟨rfl, hb5⟩; have hbb := HB.out.trans (hb5.mono HB.out.size); clear HB fa0 fa1 fa2 fa3 fb0 fb1 fb2 fb3; obtain ⟨fa0, fa1, fa2, fa3, fb0, fb1, fb2, fb3⟩ := HK.out _ hbb; have HB : Hid _ := hbb; clear hbb hb5)
      | (go_at_call 11; have hq := right_p B (wdV B (.slice pb B.sp.length cbp)) _ ⟨_, rfl, TxR.below HR.out.2.1 HB.out⟩ HL.out.2.1; rw [hrb] at hq; (with_reducible refine Calls.mono hq ?_); clear hq; rintro e w6 ⟨rfl, hb6⟩; have hbb := HB.out.trans (hb6.mono HB.out.size); clear HB fa0 fa1 fa2 fa3 fb0 fb1 fb2 fb3; obtain ⟨fa0, fa1, fa2, fa3, fb0, fb1, fb2, fb3⟩ := HK.out _ hbb; have HB : Hid _ := hbb; clear hbb hb6)
      | (go_at_call 14; have hq := of_p B (wdV B (.slice pb B.sp.length cbp)) _ ⟨_, rfl, TxR.below HR.out.2.1 HB.out⟩; (with_reducible refine Calls.mono hq ?_); clear hq; rintro e w7 ⟨v7, rfl, hw7, hb7⟩; obtain ⟨o7, d7, rfl⟩ := hw7.form; have HOB : Hid (WdV _ _ B) := hw7; clear hw7; have hbb := HB.out.trans (hb7.mono HB.out.size); clear HB fa0 fa1 fa2 fa3 fb0 fb1 fb2 fb3; obtain ⟨fa0, fa1, fa2, fa3, fb0, fb1, fb2, fb3⟩ := HK.out _ hbb; have HB : Hid _ := hbb; clear hbb hb7)
      | (go_at_call 13; have hq := rright_p B (wdV B (.slice o7 B.sp.length d7)) _ HOB.out (by omega); rw [hrb] at hq; (with_reducible refine Calls.mono hq ?_); clear hq; rintro e w8 ⟨rfl, hb8⟩; have hbb := HB.out.trans (hb8.mono HB.out.size); clear HB fa0 fa1 fa2 fa3 fb0 fb1 fb2 fb3; obtain ⟨fa0, fa1, fa2, fa3, fb0, fb1, fb2, fb3⟩ := HK.out _ hbb; have HB : Hid _ := hbb; clear hbb hb8))
    all_goals
      go_wp2_with fail
      go_meet
      case rel => exact ⟨by simp, HB.out⟩
  case rest =>
   as_aux_lemma =>
    obtain ⟨rfl, hbc⟩ := hcut
    clear HB fa0 fa1 fa2 fa3 fb0 fb1 fb2 fb3
    have HB : Hid _ := hbc
    clear hbc
    obtain ⟨fa0, fa1, fa2, fa3, fb0, fb1, fb2, fb3⟩ := HK.out _ HB.out
    cases ra
    · go_wp2_with (first
      | (go_at_call 14; have hq := of_p A (wdV A (.slice pa A.sp.length cap)) _ ⟨_, rfl, TxR.below HR.out.1 HB.out⟩; (with_reducible refine Calls.mono hq ?_); clear hq; rintro e w4 ⟨v4, rfl, hw4, hb4⟩; obtain ⟨o4, d4, rfl⟩ := hw4.form; have HOA : Hid (WdV _ _ A) := hw4; clear hw4; have hbb := HB.out.trans (hb4.mono HB.out.size); clear HB fa0 fa1 fa2 fa3 fb0 fb1 fb2 fb3; obtain ⟨fa0, fa1, fa2, fa3, fb0, fb1, fb2, fb3⟩ := HK.out _ hbb; have HB : Hid _ := hbb; clear hbb hb4)
      | (go_at_call 13; have hq := rright_p A (wdV A (.slice o4 A.sp.length d4)) _ HOA.out (by omega); rw [hra] at hq; (with_reducible refine Calls.mono hq ?_); clear hq; rintro e w5 ⟨rfl, hb5⟩; have hbb := HB.out.trans (hb5.mono HB.out.size); clear HB fa0 fa1 fa2 fa3 fb0 fb1 fb2 fb3; obtain ⟨fa0, fa1, fa2, fa3, fb0, fb1, fb2, fb3⟩ := HK.out _ hbb; have HB : Hid _ := hbb; clear hbb hb5)
      | (go_at_call 14; have hq := of_p B (wdV B (.slice pb B.sp.length cbp)) _ ⟨_, rfl, TxR.below HR.out.2.1 HB.out⟩; (with_reducible refine Calls.mono hq ?_); clear hq; rintro e w7 ⟨v7, rfl, hw7, hb7⟩; obtain ⟨o7, d7, rfl⟩ := hw7.form; have HOB : Hid (WdV _ _ B) := hw7; clear hw7; have hbb := HB.out.trans (hb7.mono HB.out.size); clear HB fa0 fa1 fa2 fa3 fb0 fb1 fb2 fb3; obtain ⟨fa0, fa1, fa2, fa3, fb0, fb1, fb2, fb3⟩ := HK.out _ hbb; have HB : Hid _ := hbb; clear hbb hb7)
      | (go_at_call 13; have hq := rright_p B (wdV B (.slice o7 B.sp.length d7)) _ HOB.out (by omega); rw [hrb] at hq; (with_reducible refine Calls.mono hq ?_); clear hq; rintro e w8 ⟨rfl, hb8⟩; have hbb := HB.out.trans (hb8.mono HB.out.size); clear HB fa0 fa1 fa2 fa3 fb0 fb1 fb2 fb3; obtain ⟨fa0, fa1, fa2, fa3, fb0, fb1, fb2, fb3⟩ := HK.out _ hbb; have HB : Hid _ := hbb; clear hbb hb8))
      all_goals
        go_ret
        exact ⟨rfl, HR.out.2.2.trans (HB.out.mono HR.out.2.2.size)⟩
    cases rb
    · go_wp2_with (first
      | (go_at_call 14; have hq := of_p A (wdV A (.slice pa A.sp.length cap)) _ ⟨_, rfl, TxR.below HR.out.1 HB.out⟩; (with_reducible refine Calls.mono hq ?_); clear hq; rintro e w4 ⟨v4, rfl, hw4, hb4⟩; obtain ⟨o4, d4, rfl⟩ := hw4.form; have HOA : Hid (WdV _ _ A) := hw4; clear hw4; have hbb := HB.out.trans (hb4.mono HB.out.size); clear HB fa0 fa1 fa2 fa3 fb0 fb1 fb2 fb3; obtain ⟨fa0, fa1, fa2, fa3, fb0, fb1, fb2, fb3⟩ := HK.out _ hbb; have HB : Hid _ := hbb; clear hbb hb4)
      | (go_at_call 13; have hq := rright_p A (wdV A (.slice o4 A.sp.length d4)) _ HOA.out (by omega); rw [hra] at hq; (with_reducible refine Calls.mono hq ?_); clear hq; rintro e w5 ⟨rfl, hb5⟩; have hbb := HB.out.trans (hb5.mono HB.out.size); clear HB fa0 fa1 fa2 fa3 fb0 fb1 fb2 fb3; obtain ⟨fa0, fa1, fa2, fa3, fb0, fb1, fb2, fb3⟩ := HK.out _ hbb; have HB : Hid _ := hbb; clear hbb hb5)
      | (go_at_call 14; have hq := of_p B (wdV B (.slice pb B.sp.length cbp)) _ ⟨_, rfl, TxR.below HR.out.2.1 HB.out⟩; (with_reducible refine Calls.mono hq ?_); clear hq; rintro e w7 ⟨v7, rfl, hw7, hb7⟩; obtain ⟨o7, d7, rfl⟩ := hw7.form; have HOB : Hid (WdV _ _ B) := hw7; clear hw7; have hbb := HB.out.trans (hb7.mono HB.out.size); clear HB fa0 fa1 fa2 fa3 fb0 fb1 fb2 fb3; obtain ⟨fa0, fa1, fa2, fa3, fb0, fb1, fb2, fb3⟩ := HK.out _ hbb; have HB : Hid _ := hbb; clear hbb hb7)
      | (go_at_call 13; have hq := rright_p B (wdV B (.slice o7 B.sp.length d7)) _ HOB.out (by omega); rw [hrb] at hq; (with_reducible refine Calls.mono hq ?_); clear hq; rintro e w8 ⟨rfl, hb8⟩; have hbb := HB.out.trans (hb8.mono HB.out.size); clear HB fa0 fa1 fa2 fa3 fb0 fb1 fb2 fb3; obtain ⟨fa0, fa1, fa2, fa3, fb0, fb1, fb2, fb3⟩ := HK.out _ hbb; have HB : Hid _ := hbb; clear hbb hb8))
      all_goals
        go_ret
        exact ⟨rfl, HR.out.2.2.trans (HB.out.mono HR.out.2.2.size)⟩
    have wa : Wr A := (rgt_iff A).1 hra
    have wb : Wr B := (rgt_iff B).1 hrb
    have HW : Hid _ := And.intro wa (And.intro wb (And.intro lA lB))
    clear wa wb
    go_upto_region 9 with (first
      | (go_at_call 14; have hq := of_p A (wdV A (.slice pa A.sp.length cap)) _ ⟨_, rfl, TxR.below HR.out.1 HB.out⟩; (with_reducible refine Calls.mono hq ?_); clear hq; rintro e w4 ⟨v4, rfl, hw4, hb4⟩; obtain ⟨o4, d4, rfl⟩ := hw4.form; have HOA : Hid (WdV _ _ A) := hw4; clear hw4; have hbb := HB.out.trans (hb4.mono HB.out.size); clear HB fa0 fa1 fa2 fa3 fb0 fb1 fb2 fb3; obtain ⟨fa0, fa1, fa2, fa3, fb0, fb1, fb2, fb3⟩ := HK.out _ hbb; have HB : Hid _ := hbb; clear hbb hb4)
      | (go_at_call 13; have hq := rright_p A (wdV A (.slice o4 A.sp.length d4)) _ HOA.out (by omega); rw [hra] at hq; (with_reducible refine Calls.mono hq ?_); clear hq; rintro e w5 ⟨rfl, hb5⟩; have hbb := HB.out.trans (hb5.mono HB.out.size); clear HB fa0 fa1 fa2 fa3 fb0 fb1 fb2 fb3; obtain ⟨fa0, fa1, fa2, fa3, fb0, fb1, fb2, fb3⟩ := HK.out _ hbb; have HB : Hid _ := hbb; clear hbb hb5)
      | (go_at_call 14; have hq := of_p B (wdV B (.slice pb B.sp.length cbp)) _ ⟨_, rfl, TxR.below HR.out.2.1 HB.out⟩; (with_reducible refine Calls.mono hq ?_); clear hq; rintro e w7 ⟨v7, rfl, hw7, hb7⟩; obtain ⟨o7, d7, rfl⟩ := hw7.form; have HOB : Hid (WdV _ _ B) := hw7; clear hw7; have hbb := HB.out.trans (hb7.mono HB.out.size); clear HB fa0 fa1 fa2 fa3 fb0 fb1 fb2 fb3; obtain ⟨fa0, fa1, fa2, fa3, fb0, fb1, fb2, fb3⟩ := HK.out _ hbb; have HB : Hid _ := hbb; clear hbb hb7)
      | (go_at_call 13; have hq := rright_p B (wdV B (.slice o7 B.sp.length d7)) _ HOB.out (by omega); rw [hrb] at hq; (with_reducible refine Calls.mono hq ?_); clear hq; rintro e w8 ⟨rfl, hb8⟩; have hbb := HB.out.trans (hb8.mono HB.out.size); clear HB fa0 fa1 fa2 fa3 fb0 fb1 fb2 fb3; obtain ⟨fa0, fa1, fa2, fa3, fb0, fb1, fb2, fb3⟩ := HK.out _ hbb; have HB : Hid _ := hbb; clear hbb hb8))
    clear hra hrb lA lB
    (try clear HOA); (try clear HOB)
    go_wp2_with fail
    refine Calls.mono (bothW_p A B (wdV A (.slice pa A.sp.length cap)) (wdV B (.slice pb B.sp.length cbp)) _ ⟨_, rfl, TxR.below HR.out.1 HB.out⟩ ⟨_, rfl, TxR.below HR.out.2.1 HB.out⟩ (inc_alw HW.out.1) (inc_alw HW.out.2.1) (by have := HW.out.2.2.1; omega) (by have := HW.out.2.2.2; omega)) ?_
    rintro e w5 ⟨v5, rfl, hw5, hb5⟩
    obtain ⟨x5, c5', rfl⟩ := hw5.form
    obtain ⟨X, hX⟩ : ∃ X, (bothP A B).1 = X := ⟨_, rfl⟩
    obtain ⟨ok, hok⟩ : ∃ k, (bothP A B).2 = k := ⟨_, rfl⟩
    have hxl := bothP_len HW.out.2.2.1 HW.out.2.2.2
    have hxo := bothP_or A B
    rw [hX] at hw5 hxl hxo
    have h9x := nw_heap w5 (.cells #[.int .i64 X.how, .string (sB X.nt), .slice x5 X.sp.length c5', .int .i64 X.pr] 25)
    have h9b := (HB.out.trans (hb5.mono HB.out.size)).alloc (HB.out.trans (hb5.mono HB.out.size)).size (.cells #[.int .i64 X.how, .string (sB X.nt), .slice x5 X.sp.length c5', .int .i64 X.pr] 25)
    have h9r := TxR.below (WdV.row hw5) (bel1 w5 (.cells #[.int .i64 X.how, .string (sB X.nt), .slice x5 X.sp.length c5', .int .i64 X.pr] 25))
    rw [hX, hok]
    have hXX : bothP A B = (X, ok) := by rw [← hX, ← hok]
    have HXX : Hid _ := And.intro hXX (And.intro hxl hxo)
    clear hX hok hxl hxo hXX
    have H9 : Hid _ := And.intro h9x (And.intro h9b h9r)
    clear h9x h9b h9r hw5 hb5 HB fa0 fa1 fa2 fa3 fb0 fb1 fb2 fb3
    go_upto_region 10 with fail
    generalize (w5.alloc (.cells #[.int .i64 X.how, .string (sB X.nt), .slice x5 X.sp.length c5', .int .i64 X.pr] 25)) = W9 at H9 ⊢
    have HR9 : Hid (TxR W9 (.slice pa A.sp.length cap) A.sp ∧ TxR W9 (.slice pb B.sp.length cbp) B.sp) := ⟨TxR.below HR.out.1 H9.out.2.1, TxR.below HR.out.2.1 H9.out.2.1⟩
    have HK9 : Hid (∀ W, Below W9.heap.size W9 W → (W.cell? ⟨w.heap.size, 0, none⟩ = some (.int .i64 A.how) ∧ W.cell? ⟨w.heap.size, 1, none⟩ = some (.string (sB A.nt)) ∧ W.cell? ⟨w.heap.size, 2, none⟩ = some (.slice pa A.sp.length cap) ∧ W.cell? ⟨w.heap.size, 3, none⟩ = some (.int .i64 A.pr) ∧ W.cell? ⟨w.heap.size + 1, 0, none⟩ = some (.int .i64 B.how) ∧ W.cell? ⟨w.heap.size + 1, 1, none⟩ = some (.string (sB B.nt)) ∧ W.cell? ⟨w.heap.size + 1, 2, none⟩ = some (.slice pb B.sp.length cbp) ∧ W.cell? ⟨w.heap.size + 1, 3, none⟩ = some (.int .i64 B.pr))) := fun W hW => HK.out W (H9.out.2.1.trans (hW.mono H9.out.2.1.size))
    have HLT : Hid (w.heap.size + 1 < W9.heap.size) := Nat.lt_of_lt_of_le (lt_of HX.out.2) H9.out.2.1.size
    have HB : Hid (Below W9.heap.size W9 W9.drew) := (Below.refl _ _).drew
    obtain ⟨fa0, fa1, fa2, fa3, fb0, fb1, fb2, fb3⟩ := HK9.out W9 (Below.refl _ _)
    go_cut [9, 10] (fun v9 v10 wx => ∃ (T6 : Nat) (x6 : Option Addr) (c6' : Nat), v9 = .pointer (some ⟨T6, 0, none⟩) ∧ v10 = .bool ok ∧ RzF W9 T6 X (.slice x6 X.sp.length c6') wx)
    case first =>
     as_aux_lemma =>
      go_region_held3 (fun W => W.cell? ⟨w.heap.size, 0, none⟩ = some (.int .i64 A.how) ∧ W.cell? ⟨w.heap.size, 1, none⟩ = some (.string (sB A.nt)) ∧ W.cell? ⟨w.heap.size, 2, none⟩ = some (.slice pa A.sp.length cap) ∧ W.cell? ⟨w.heap.size, 3, none⟩ = some (.int .i64 A.pr) ∧ W.cell? ⟨w.heap.size + 1, 0, none⟩ = some (.int .i64 B.how) ∧ W.cell? ⟨w.heap.size + 1, 1, none⟩ = some (.string (sB B.nt)) ∧ W.cell? ⟨w.heap.size + 1, 2, none⟩ = some (.slice pb B.sp.length cbp) ∧ W.cell? ⟨w.heap.size + 1, 3, none⟩ = some (.int .i64 B.pr)) (first | exact ⟨fa0, fa1, fa2, fa3, fb0, fb1, fb2, fb3⟩ | go_keep) (first
        | (go_at_call 14; have hq := of_p A (wdV A (.slice pa A.sp.length cap)) _ ⟨_, rfl, TxR.below HR9.out.1 HB.out⟩; (with_reducible refine Calls.mono hq ?_); clear hq; rintro e w4 ⟨v4, rfl, hw4, hb4⟩; obtain ⟨o4, d4, rfl⟩ := hw4.form; have hbb := HB.out.trans (hb4.mono HB.out.size); (try (have hy' := (hb4.block _ (lt_of HY.out.1)).trans HY.out.1; have hl' := HY.out.2; clear HY z0 z1 z2 z3 k0 k1 k2 k3; have HY : Hid _ := And.intro hy' hl'; obtain ⟨⟨z0, z1, z2, z3⟩, k0, k1, k2, k3⟩ := blk4 hy'; clear hy' hl')); clear HB fa0 fa1 fa2 fa3 fb0 fb1 fb2 fb3; obtain ⟨fa0, fa1, fa2, fa3, fb0, fb1, fb2, fb3⟩ := HK9.out _ hbb; have HB : Hid _ := hbb; have HOA : Hid (WdV _ _ A) := hw4; clear hbb hb4 hw4)
        | (go_at_call 14; have hq := of_p B (wdV B (.slice pb B.sp.length cbp)) _ ⟨_, rfl, TxR.below HR9.out.2 HB.out⟩; (with_reducible refine Calls.mono hq ?_); clear hq; rintro e w7 ⟨v7, rfl, hw7, hb7⟩; obtain ⟨o7, d7, rfl⟩ := hw7.form; have hbb := HB.out.trans (hb7.mono HB.out.size); (try (have hy' := (hb7.block _ (lt_of HY.out.1)).trans HY.out.1; have hl' := HY.out.2; clear HY z0 z1 z2 z3 k0 k1 k2 k3; have HY : Hid _ := And.intro hy' hl'; obtain ⟨⟨z0, z1, z2, z3⟩, k0, k1, k2, k3⟩ := blk4 hy'; clear hy' hl')); clear HB fa0 fa1 fa2 fa3 fb0 fb1 fb2 fb3; obtain ⟨fa0, fa1, fa2, fa3, fb0, fb1, fb2, fb3⟩ := HK9.out _ hbb; have HB : Hid _ := hbb; have hk' := WdV.below HOA.out hb7; clear HOA; have HOA : Hid (WdV _ _ A) := hk'; clear hk'; have HOB : Hid (WdV _ _ B) := hw7; clear hbb hb7 hw7)
        | (go_at_call 16; have hq := rboth_p A B (wdV A (.slice o4 A.sp.length d4)) (wdV B (.slice o7 B.sp.length d7)) _ HOA.out HOB.out (by have := HW.out.2.2.1; omega) (by have := HW.out.2.2.2; omega); rw [← both_eq HW.out.1 HW.out.2.1, HXX.out.1] at hq; (with_reducible refine Calls.mono hq ?_); clear hq; rintro e w8 ⟨v8, rfl, hw8, hb8⟩; obtain ⟨o8, d8, rfl⟩ := hw8.form; have hbb := HB.out.trans (hb8.mono HB.out.size); (try (have hy' := (hb8.block _ (lt_of HY.out.1)).trans HY.out.1; have hl' := HY.out.2; clear HY z0 z1 z2 z3 k0 k1 k2 k3; have HY : Hid _ := And.intro hy' hl'; obtain ⟨⟨z0, z1, z2, z3⟩, k0, k1, k2, k3⟩ := blk4 hy'; clear hy' hl')); clear HB fa0 fa1 fa2 fa3 fb0 fb1 fb2 fb3; obtain ⟨fa0, fa1, fa2, fa3, fb0, fb1, fb2, fb3⟩ := HK9.out _ hbb; have HB : Hid _ := hbb; have HZZ : Hid (WdV _ _ X) := hw8; clear hbb hb8 hw8)
        | (go_at_call 14; have hq := of_p A (wdV A (.slice pa A.sp.length cap)) _ ⟨_, rfl, TxR.below HR9.out.1 (HB.out.alloc HB.out.size oRz)⟩; (with_reducible refine Calls.mono hq ?_); clear hq; rintro e w4 ⟨v4, rfl, hw4, hb4⟩; obtain ⟨o4, d4, rfl⟩ := hw4.form; have hyy := bel_blk hb4; have hyl := HB.out.size; have hb4a := bel_blk' hb4; clear hb4; have hb4 := hb4a; clear hb4a; have hbb := HB.out.trans (hb4.mono HB.out.size); have HY : Hid _ := And.intro hyy hyl; obtain ⟨⟨z0, z1, z2, z3⟩, k0, k1, k2, k3⟩ := blk4 hyy; obtain ⟨q1, q2, q3, q4, q5, q6⟩ := neY3 hyl HLT.out (Nat.lt_of_succ_lt HLT.out); clear hyy hyl; clear HB fa0 fa1 fa2 fa3 fb0 fb1 fb2 fb3; obtain ⟨fa0, fa1, fa2, fa3, fb0, fb1, fb2, fb3⟩ := HK9.out _ hbb; have HB : Hid _ := hbb; have HOA : Hid (WdV _ _ A) := hw4; clear hbb hb4 hw4)
        | (go_at_call 14; have hq := of_p B (wdV B (.slice pb B.sp.length cbp)) _ ⟨_, rfl, TxR.below HR9.out.2 (HB.out.alloc HB.out.size oRz)⟩; (with_reducible refine Calls.mono hq ?_); clear hq; rintro e w7 ⟨v7, rfl, hw7, hb7⟩; obtain ⟨o7, d7, rfl⟩ := hw7.form; have hyy := bel_blk hb7; have hyl := HB.out.size; have hb7a := bel_blk' hb7; clear hb7; have hb7 := hb7a; clear hb7a; have hbb := HB.out.trans (hb7.mono HB.out.size); have HY : Hid _ := And.intro hyy hyl; obtain ⟨⟨z0, z1, z2, z3⟩, k0, k1, k2, k3⟩ := blk4 hyy; obtain ⟨q1, q2, q3, q4, q5, q6⟩ := neY3 hyl HLT.out (Nat.lt_of_succ_lt HLT.out); clear hyy hyl; clear HB fa0 fa1 fa2 fa3 fb0 fb1 fb2 fb3; obtain ⟨fa0, fa1, fa2, fa3, fb0, fb1, fb2, fb3⟩ := HK9.out _ hbb; have HB : Hid _ := hbb; have hk' := WdV.below HOA.out hb7; clear HOA; have HOA : Hid (WdV _ _ A) := hk'; clear hk'; have HOB : Hid (WdV _ _ B) := hw7; clear hbb hb7 hw7)
        | (go_at_call 16; have hq := rboth_p A B (wdV A (.slice o4 A.sp.length d4)) (wdV B (.slice o7 B.sp.length d7)) _ (WdV.below HOA.out (bel1 _ oRz)) (WdV.below HOB.out (bel1 _ oRz)) (by have := HW.out.2.2.1; omega) (by have := HW.out.2.2.2; omega); rw [← both_eq HW.out.1 HW.out.2.1, HXX.out.1] at hq; (with_reducible refine Calls.mono hq ?_); clear hq; rintro e w8 ⟨v8, rfl, hw8, hb8⟩; obtain ⟨o8, d8, rfl⟩ := hw8.form; have hyy := bel_blk hb8; have hyl := HB.out.size; have hb8a := bel_blk' hb8; clear hb8; have hb8 := hb8a; clear hb8a; have hbb := HB.out.trans (hb8.mono HB.out.size); have HY : Hid _ := And.intro hyy hyl; obtain ⟨⟨z0, z1, z2, z3⟩, k0, k1, k2, k3⟩ := blk4 hyy; obtain ⟨q1, q2, q3, q4, q5, q6⟩ := neY3 hyl HLT.out (Nat.lt_of_succ_lt HLT.out); clear hyy hyl; clear HB fa0 fa1 fa2 fa3 fb0 fb1 fb2 fb3; obtain ⟨fa0, fa1, fa2, fa3, fb0, fb1, fb2, fb3⟩ := HK9.out _ hbb; have HB : Hid _ := hbb; have HZZ : Hid (WdV _ _ X) := hw8; clear hbb hb8 hw8)
        | (go_at_call 14; have hq := of_p A (wdV A (.slice pa A.sp.length cap)) _ ⟨_, rfl, TxR.below HR9.out.1 (bel1 W9 oRz).drew⟩; (with_reducible refine Calls.mono hq ?_); clear hq; rintro e w4 ⟨v4, rfl, hw4, hb4a⟩; obtain ⟨o4, d4, rfl⟩ := hw4.form; have hb4 : Below (W9.alloc oRz).heap.size (W9.alloc oRz) w4 := ⟨hb4a.os, hb4a.tape, hb4a.output, hb4a.size, hb4a.block⟩; have hyy := bel_blk hb4; have hyl := Nat.le_refl W9.heap.size; have hbb := bel_blk' hb4; clear hb4a; have HY : Hid _ := And.intro hyy hyl; obtain ⟨⟨z0, z1, z2, z3⟩, k0, k1, k2, k3⟩ := blk4 hyy; obtain ⟨q1, q2, q3, q4, q5, q6⟩ := neY3 hyl HLT.out (Nat.lt_of_succ_lt HLT.out); clear hyy hyl; clear HB fa0 fa1 fa2 fa3 fb0 fb1 fb2 fb3; obtain ⟨fa0, fa1, fa2, fa3, fb0, fb1, fb2, fb3⟩ := HK9.out _ hbb; have HB : Hid _ := hbb; have HOA : Hid (WdV _ _ A) := hw4; clear hbb hb4 hw4))
      all_goals
        go_wp2_with fail
        go_meet
        case rel =>
          first
            | (have hz := rz_set HY.out.1 HY.out.2 HB.out (WdV.row HZZ.out) HXX.out.2.2; exact ⟨_, _, _, rfl, rfl, hz⟩)
            | (have hz := rz_new HB.out (WdV.row HZZ.out); exact ⟨_, _, _, rfl, rfl, hz⟩)
    case rest =>
     as_aux_lemma =>
      obtain ⟨T6, x6, c6', rfl, rfl, hz⟩ := hcut
      have HZ6 : Hid (RzF W9 T6 X (.slice x6 X.sp.length c6') wc) := hz
      clear hz HB HK9 HLT HR9 fa0 fa1 fa2 fa3 fb0 fb1 fb2 fb3
      obtain ⟨W10, rfl⟩ : ∃ W, W = wc := ⟨_, rfl⟩
      have hb10 : Below U.heap.size U W10 := H9.out.2.1.trans (HZ6.out.2.2.1.mono H9.out.2.1.size)
      have HB : Hid (Below U.heap.size U W10) := hb10
      clear hb10
      obtain ⟨fa0, fa1, fa2, fa3, fb0, fb1, fb2, fb3⟩ := HK.out _ HB.out
      go_wp2_with fail
      refine Calls.mono (unionW_p A B (wdV A (.slice pa A.sp.length cap)) (wdV B (.slice pb B.sp.length cbp)) W10 ⟨_, rfl, TxR.below HR.out.1 HB.out⟩ ⟨_, rfl, TxR.below HR.out.2.1 HB.out⟩ (inc_alw HW.out.1) (inc_alw HW.out.2.1) (by have := HW.out.2.2.1; omega) (by have := HW.out.2.2.2; omega)) ?_
      rintro e w7 ⟨v7, rfl, hw7, hb7⟩
      obtain ⟨x7, c7', rfl⟩ := hw7.form
      obtain ⟨N, hN⟩ : ∃ X, (unionP A B).1 = X := ⟨_, rfl⟩
      obtain ⟨is, his⟩ : ∃ k, (unionP A B).2 = k := ⟨_, rfl⟩
      have hnl := unionP_len HW.out.2.2.1 HW.out.2.2.2
      have hno := unionP_or A B
      rw [hN] at hw7 hnl hno
      rw [hN, his]
      have hNN : unionP A B = (N, is) := by rw [← hN, ← his]
      have HNN : Hid _ := And.intro hNN (And.intro hnl hno)
      clear hN his hnl hno hNN
      have hb11 : Below W10.heap.size W10 (w7.alloc (.cells #[.int .i64 N.how, .string (sB N.nt), .slice x7 N.sp.length c7', .int .i64 N.pr] 25)) := hb7.alloc hb7.size _
      have h11n := nw_heap w7 (.cells #[.int .i64 N.how, .string (sB N.nt), .slice x7 N.sp.length c7', .int .i64 N.pr] 25)
      have h11r := TxR.below (WdV.row hw7) (bel1 w7 (.cells #[.int .i64 N.how, .string (sB N.nt), .slice x7 N.sp.length c7', .int .i64 N.pr] 25))
      have h11b := HB.out.trans (hb11.mono HB.out.size)
      have h11x := ((HZ6.out.2.2.1.trans (hb11.mono HZ6.out.2.2.1.size)).block _ (lt_of H9.out.1)).trans H9.out.1
      have h11xr := TxR.below H9.out.2.2 (HZ6.out.2.2.1.trans (hb11.mono HZ6.out.2.2.1.size))
      have h11y := (hb11.block _ (lt_of HZ6.out.1)).trans HZ6.out.1
      have h11yr := TxR.below HZ6.out.2.1 hb11
      have H11 : Hid _ := And.intro h11b (And.intro (And.intro h11x h11xr) (And.intro (And.intro h11y h11yr) (And.intro h11n h11r)))
      clear hb11 h11n h11r h11b h11x h11xr h11y h11yr hw7 hb7 HB fa0 fa1 fa2 fa3 fb0 fb1 fb2 fb3 HZ6 H9
      go_upto_region 12 with fail
      generalize (w7.alloc (.cells #[.int .i64 N.how, .string (sB N.nt), .slice x7 N.sp.length c7', .int .i64 N.pr] 25)) = W11 at H11 ⊢
      have HR11 : Hid (TxR W11 (.slice pa A.sp.length cap) A.sp ∧ TxR W11 (.slice pb B.sp.length cbp) B.sp) := ⟨TxR.below HR.out.1 H11.out.1, TxR.below HR.out.2.1 H11.out.1⟩
      have HK11 : Hid (∀ W, Below W11.heap.size W11 W → (W.cell? ⟨w.heap.size, 0, none⟩ = some (.int .i64 A.how) ∧ W.cell? ⟨w.heap.size, 1, none⟩ = some (.string (sB A.nt)) ∧ W.cell? ⟨w.heap.size, 2, none⟩ = some (.slice pa A.sp.length cap) ∧ W.cell? ⟨w.heap.size, 3, none⟩ = some (.int .i64 A.pr) ∧ W.cell? ⟨w.heap.size + 1, 0, none⟩ = some (.int .i64 B.how) ∧ W.cell? ⟨w.heap.size + 1, 1, none⟩ = some (.string (sB B.nt)) ∧ W.cell? ⟨w.heap.size + 1, 2, none⟩ = some (.slice pb B.sp.length cbp) ∧ W.cell? ⟨w.heap.size + 1, 3, none⟩ = some (.int .i64 B.pr))) := fun W hW => HK.out W (H11.out.1.trans (hW.mono H11.out.1.size))
      have HLT : Hid (w.heap.size + 1 < W11.heap.size) := Nat.lt_of_lt_of_le (lt_of HX.out.2) H11.out.1.size
      have HB : Hid (Below W11.heap.size W11 W11.drew) := (Below.refl _ _).drew
      obtain ⟨fa0, fa1, fa2, fa3, fb0, fb1, fb2, fb3⟩ := HK11.out W11 (Below.refl _ _)
      go_cut [13, 14] (fun v13 v14 wx => ∃ (T8 : Nat) (x8 : Option Addr) (c8' : Nat), v13 = .pointer (some ⟨T8, 0, none⟩) ∧ v14 = .bool is ∧ RzF W11 T8 N (.slice x8 N.sp.length c8') wx)
      case first =>
       as_aux_lemma =>
        go_region_held3 (fun W => W.cell? ⟨w.heap.size, 0, none⟩ = some (.int .i64 A.how) ∧ W.cell? ⟨w.heap.size, 1, none⟩ = some (.string (sB A.nt)) ∧ W.cell? ⟨w.heap.size, 2, none⟩ = some (.slice pa A.sp.length cap) ∧ W.cell? ⟨w.heap.size, 3, none⟩ = some (.int .i64 A.pr) ∧ W.cell? ⟨w.heap.size + 1, 0, none⟩ = some (.int .i64 B.how) ∧ W.cell? ⟨w.heap.size + 1, 1, none⟩ = some (.string (sB B.nt)) ∧ W.cell? ⟨w.heap.size + 1, 2, none⟩ = some (.slice pb B.sp.length cbp) ∧ W.cell? ⟨w.heap.size + 1, 3, none⟩ = some (.int .i64 B.pr)) (first | exact ⟨fa0, fa1, fa2, fa3, fb0, fb1, fb2, fb3⟩ | go_keep) (first
          | (go_at_call 14; have hq := of_p A (wdV A (.slice pa A.sp.length cap)) _ ⟨_, rfl, TxR.below HR11.out.1 HB.out⟩; (with_reducible refine Calls.mono hq ?_); clear hq; rintro e w4 ⟨v4, rfl, hw4, hb4⟩; obtain ⟨o4, d4, rfl⟩ := hw4.form; have hbb := HB.out.trans (hb4.mono HB.out.size); (try (have hy' := (hb4.block _ (lt_of HY.out.1)).trans HY.out.1; have hl' := HY.out.2; clear HY z0 z1 z2 z3 k0 k1 k2 k3; have HY : Hid _ := And.intro hy' hl'; obtain ⟨⟨z0, z1, z2, z3⟩, k0, k1, k2, k3⟩ := blk4 hy'; clear hy' hl')); clear HB fa0 fa1 fa2 fa3 fb0 fb1 fb2 fb3; obtain ⟨fa0, fa1, fa2, fa3, fb0, fb1, fb2, fb3⟩ := HK11.out _ hbb; have HB : Hid _ := hbb; have HOA : Hid (WdV _ _ A) := hw4; clear hbb hb4 hw4)
          | (go_at_call 14; have hq := of_p B (wdV B (.slice pb B.sp.length cbp)) _ ⟨_, rfl, TxR.below HR11.out.2 HB.out⟩; (with_reducible refine Calls.mono hq ?_); clear hq; rintro e w7 ⟨v7, rfl, hw7, hb7⟩; obtain ⟨o7, d7, rfl⟩ := hw7.form; have hbb := HB.out.trans (hb7.mono HB.out.size); (try (have hy' := (hb7.block _ (lt_of HY.out.1)).trans HY.out.1; have hl' := HY.out.2; clear HY z0 z1 z2 z3 k0 k1 k2 k3; have HY : Hid _ := And.intro hy' hl'; obtain ⟨⟨z0, z1, z2, z3⟩, k0, k1, k2, k3⟩ := blk4 hy'; clear hy' hl')); clear HB fa0 fa1 fa2 fa3 fb0 fb1 fb2 fb3; obtain ⟨fa0, fa1, fa2, fa3, fb0, fb1, fb2, fb3⟩ := HK11.out _ hbb; have HB : Hid _ := hbb; have hk' := WdV.below HOA.out hb7; clear HOA; have HOA : Hid (WdV _ _ A) := hk'; clear hk'; have HOB : Hid (WdV _ _ B) := hw7; clear hbb hb7 hw7)
          | (go_at_call 18; have hq := runion_p A B (wdV A (.slice o4 A.sp.length d4)) (wdV B (.slice o7 B.sp.length d7)) _ HOA.out HOB.out HW.out.1 HW.out.2.1 (by have := HW.out.2.2.1; omega) (by have := HW.out.2.2.2; omega); rw [← union_eq HW.out.1 HW.out.2.1, HNN.out.1] at hq; (with_reducible refine Calls.mono hq ?_); clear hq; rintro e w8 ⟨v8, rfl, hw8, hb8⟩; obtain ⟨o8, d8, rfl⟩ := hw8.form; have hbb := HB.out.trans (hb8.mono HB.out.size); (try (have hy' := (hb8.block _ (lt_of HY.out.1)).trans HY.out.1; have hl' := HY.out.2; clear HY z0 z1 z2 z3 k0 k1 k2 k3; have HY : Hid _ := And.intro hy' hl'; obtain ⟨⟨z0, z1, z2, z3⟩, k0, k1, k2, k3⟩ := blk4 hy'; clear hy' hl')); clear HB fa0 fa1 fa2 fa3 fb0 fb1 fb2 fb3; obtain ⟨fa0, fa1, fa2, fa3, fb0, fb1, fb2, fb3⟩ := HK11.out _ hbb; have HB : Hid _ := hbb; have HZZ : Hid (WdV _ _ N) := hw8; clear hbb hb8 hw8)
          | (go_at_call 14; have hq := of_p A (wdV A (.slice pa A.sp.length cap)) _ ⟨_, rfl, TxR.below HR11.out.1 (HB.out.alloc HB.out.size oRz)⟩; (with_reducible refine Calls.mono hq ?_); clear hq; rintro e w4 ⟨v4, rfl, hw4, hb4⟩; obtain ⟨o4, d4, rfl⟩ := hw4.form; have hyy := bel_blk hb4; have hyl := HB.out.size; have hb4a := bel_blk' hb4; clear hb4; have hb4 := hb4a; clear hb4a; have hbb := HB.out.trans (hb4.mono HB.out.size); have HY : Hid _ := And.intro hyy hyl; obtain ⟨⟨z0, z1, z2, z3⟩, k0, k1, k2, k3⟩ := blk4 hyy; obtain ⟨q1, q2, q3, q4, q5, q6⟩ := neY3 hyl HLT.out (Nat.lt_of_succ_lt HLT.out); clear hyy hyl; clear HB fa0 fa1 fa2 fa3 fb0 fb1 fb2 fb3; obtain ⟨fa0, fa1, fa2, fa3, fb0, fb1, fb2, fb3⟩ := HK11.out _ hbb; have HB : Hid _ := hbb; have HOA : Hid (WdV _ _ A) := hw4; clear hbb hb4 hw4)
          | (go_at_call 14; have hq := of_p B (wdV B (.slice pb B.sp.length cbp)) _ ⟨_, rfl, TxR.below HR11.out.2 (HB.out.alloc HB.out.size oRz)⟩; (with_reducible refine Calls.mono hq ?_); clear hq; rintro e w7 ⟨v7, rfl, hw7, hb7⟩; obtain ⟨o7, d7, rfl⟩ := hw7.form; have hyy := bel_blk hb7; have hyl := HB.out.size; have hb7a := bel_blk' hb7; clear hb7; have hb7 := hb7a; clear hb7a; have hbb := HB.out.trans (hb7.mono HB.out.size); have HY : Hid _ := And.intro hyy hyl; obtain ⟨⟨z0, z1, z2, z3⟩, k0, k1, k2, k3⟩ := blk4 hyy; obtain ⟨q1, q2, q3, q4, q5, q6⟩ := neY3 hyl HLT.out (Nat.lt_of_succ_lt HLT.out); clear hyy hyl; clear HB fa0 fa1 fa2 fa3 fb0 fb1 fb2 fb3; obtain ⟨fa0, fa1, fa2, fa3, fb0, fb1, fb2, fb3⟩ := HK11.out _ hbb; have HB : Hid _ := hbb; have hk' := WdV.below HOA.out hb7; clear HOA; have HOA : Hid (WdV _ _ A) := hk'; clear hk'; have HOB : Hid (WdV _ _ B) := hw7; clear hbb hb7 hw7)
          | (go_at_call 18; have hq := runion_p A B (wdV A (.slice o4 A.sp.length d4)) (wdV B (.slice o7 B.sp.length d7)) _ (WdV.below HOA.out (bel1 _ oRz)) (WdV.below HOB.out (bel1 _ oRz)) HW.out.1 HW.out.2.1 (by have := HW.out.2.2.1; omega) (by have := HW.out.2.2.2; omega); rw [← union_eq HW.out.1 HW.out.2.1, HNN.out.1] at hq; (with_reducible refine Calls.mono hq ?_); clear hq; rintro e w8 ⟨v8, rfl, hw8, hb8⟩; obtain ⟨o8, d8, rfl⟩ := hw8.form; have hyy := bel_blk hb8; have hyl := HB.out.size; have hb8a := bel_blk' hb8; clear hb8; have hb8 := hb8a; clear hb8a; have hbb := HB.out.trans (hb8.mono HB.out.size); have HY : Hid _ := And.intro hyy hyl; obtain ⟨⟨z0, z1, z2, z3⟩, k0, k1, k2, k3⟩ := blk4 hyy; obtain ⟨q1, q2, q3, q4, q5, q6⟩ := neY3 hyl HLT.out (Nat.lt_of_succ_lt HLT.out); clear hyy hyl; clear HB fa0 fa1 fa2 fa3 fb0 fb1 fb2 fb3; obtain ⟨fa0, fa1, fa2, fa3, fb0, fb1, fb2, fb3⟩ := HK11.out _ hbb; have HB : Hid _ := hbb; have HZZ : Hid (WdV _ _ N) := hw8; clear hbb hb8 hw8)
          | (go_at_call 14; have hq := of_p A (wdV A (.slice pa A.sp.length cap)) _ ⟨_, rfl, TxR.below HR11.out.1 (bel1 W11 oRz).drew⟩; (with_reducible refine Calls.mono hq ?_); clear hq; rintro e w4 ⟨v4, rfl, hw4, hb4a⟩; obtain ⟨o4, d4, rfl⟩ := hw4.form; have hb4 : Below (W11.alloc oRz).heap.size (W11.alloc oRz) w4 := ⟨hb4a.os, hb4a.tape, hb4a.output, hb4a.size, hb4a.block⟩; have hyy := bel_blk hb4; have hyl := Nat.le_refl W11.heap.size; have hbb := bel_blk' hb4; clear hb4a; have HY : Hid _ := And.intro hyy hyl; obtain ⟨⟨z0, z1, z2, z3⟩, k0, k1, k2, k3⟩ := blk4 hyy; obtain ⟨q1, q2, q3, q4, q5, q6⟩ := neY3 hyl HLT.out (Nat.lt_of_succ_lt HLT.out); clear hyy hyl; clear HB fa0 fa1 fa2 fa3 fb0 fb1 fb2 fb3; obtain ⟨fa0, fa1, fa2, fa3, fb0, fb1, fb2, fb3⟩ := HK11.out _ hbb; have HB : Hid _ := hbb; have HOA : Hid (WdV _ _ A) := hw4; clear hbb hb4 hw4))
        all_goals
          go_wp2_with fail
          go_meet
          case rel =>
            first
              | (have hz := rz_set HY.out.1 HY.out.2 HB.out (WdV.row HZZ.out) HNN.out.2.2; exact ⟨_, _, _, rfl, rfl, hz⟩)
              | (have hz := rz_new HB.out (WdV.row HZZ.out); exact ⟨_, _, _, rfl, rfl, hz⟩)
      case rest =>
       as_aux_lemma =>
        obtain ⟨T8, x8, c8', rfl, rfl, hz⟩ := hcut
        obtain ⟨W12, rfl⟩ : ∃ W, W = wc := ⟨_, rfl⟩
        have HZ8 : Hid (RzF W11 T8 N (.slice x8 N.sp.length c8') W12) := hz
        clear hz HB HK11 HLT HR11 fa0 fa1 fa2 fa3 fb0 fb1 fb2 fb3
        have hb12 : Below U.heap.size U W12 := H11.out.1.trans (HZ8.out.2.2.1.mono H11.out.1.size)
        have b1 := HZ8.out.2.2.1
        have hR12 := And.intro (TxR.below HR.out.1 hb12) (And.intro (TxR.below HR.out.2.1 hb12) (And.intro (TxR.below H11.out.2.1.2 b1) (And.intro (TxR.below H11.out.2.2.1.2 b1) (And.intro (TxR.below H11.out.2.2.2.2 b1) HZ8.out.2.1))))
        have HR12 : Hid _ := hR12
        have HK12 : Hid (∀ W, Below W12.heap.size W12 W → (W.cell? ⟨w.heap.size, 0, none⟩ = some (.int .i64 A.how) ∧ W.cell? ⟨w.heap.size, 1, none⟩ = some (.string (sB A.nt)) ∧ W.cell? ⟨w.heap.size, 2, none⟩ = some (.slice pa A.sp.length cap) ∧ W.cell? ⟨w.heap.size, 3, none⟩ = some (.int .i64 A.pr) ∧ W.cell? ⟨w.heap.size + 1, 0, none⟩ = some (.int .i64 B.how) ∧ W.cell? ⟨w.heap.size + 1, 1, none⟩ = some (.string (sB B.nt)) ∧ W.cell? ⟨w.heap.size + 1, 2, none⟩ = some (.slice pb B.sp.length cbp) ∧ W.cell? ⟨w.heap.size + 1, 3, none⟩ = some (.int .i64 B.pr) ∧ W.cell? ⟨w5.heap.size, 0, none⟩ = some (.int .i64 X.how) ∧ W.cell? ⟨w5.heap.size, 1, none⟩ = some (.string (sB X.nt)) ∧ W.cell? ⟨w5.heap.size, 2, none⟩ = some (.slice x5 X.sp.length c5') ∧ W.cell? ⟨w5.heap.size, 3, none⟩ = some (.int .i64 X.pr) ∧ W.cell? ⟨T6, 0, none⟩ = some (.int .i64 X.how) ∧ W.cell? ⟨T6, 1, none⟩ = some (.string (sB X.nt)) ∧ W.cell? ⟨T6, 2, none⟩ = some (.slice x6 X.sp.length c6') ∧ W.cell? ⟨T6, 3, none⟩ = some (.int .i64 X.pr) ∧ W.cell? ⟨w7.heap.size, 0, none⟩ = some (.int .i64 N.how) ∧ W.cell? ⟨w7.heap.size, 1, none⟩ = some (.string (sB N.nt)) ∧ W.cell? ⟨w7.heap.size, 2, none⟩ = some (.slice x7 N.sp.length c7') ∧ W.cell? ⟨w7.heap.size, 3, none⟩ = some (.int .i64 N.pr) ∧ W.cell? ⟨T8, 0, none⟩ = some (.int .i64 N.how) ∧ W.cell? ⟨T8, 1, none⟩ = some (.string (sB N.nt)) ∧ W.cell? ⟨T8, 2, none⟩ = some (.slice x8 N.sp.length c8') ∧ W.cell? ⟨T8, 3, none⟩ = some (.int .i64 N.pr))) := fun W hW => by
          obtain ⟨fa0, fa1, fa2, fa3, fb0, fb1, fb2, fb3⟩ := HK.out W (hb12.trans (hW.mono hb12.size))
          have hw1 := b1.trans (hW.mono b1.size)
          obtain ⟨⟨fx0, fx1, fx2, fx3⟩, _⟩ := blk4 ((hw1.block _ (lt_of H11.out.2.1.1)).trans H11.out.2.1.1)
          obtain ⟨⟨fy0, fy1, fy2, fy3⟩, _⟩ := blk4 ((hw1.block _ (lt_of H11.out.2.2.1.1)).trans H11.out.2.2.1.1)
          obtain ⟨⟨fn0, fn1, fn2, fn3⟩, _⟩ := blk4 ((hw1.block _ (lt_of H11.out.2.2.2.1)).trans H11.out.2.2.2.1)
          obtain ⟨⟨fq0, fq1, fq2, fq3⟩, _⟩ := blk4 ((hW.block _ (lt_of HZ8.out.1)).trans HZ8.out.1)
          exact ⟨fa0, fa1, fa2, fa3, fb0, fb1, fb2, fb3, fx0, fx1, fx2, fx3, fy0, fy1, fy2, fy3, fn0, fn1, fn2, fn3, fq0, fq1, fq2, fq3⟩
        have HU : Hid (Below w.heap.size w W12) := HR.out.2.2.trans (hb12.mono HR.out.2.2.size)
        clear hb12 b1 hR12 HZ8 H11 HK HL HX HR hxs lx hx3 h0 h1
        obtain ⟨p, hpA⟩ : ∃ b, (alw A).has x = b := ⟨_, rfl⟩
        obtain ⟨tb, hpB⟩ : ∃ b, (alw B).has x = b := ⟨_, rfl⟩
        have hrA : rallows A x = p := by rw [← has_ral HW.out.1]; exact hpA
        obtain ⟨s, hsu⟩ : ∃ b, subP A B = b := ⟨_, rfl⟩
        have hrs : rsub A B = s := by rw [← sub_eq HW.out.1 HW.out.2.1]; exact hsu
        obtain ⟨r, hsa⟩ : ∃ b, sameP A B = b := ⟨_, rfl⟩
        have hrq : rsame A B = r := by rw [← same_eq HW.out.1 HW.out.2.1]; exact hsa
        have HB : Hid (Below W12.heap.size W12 W12.drew) := (Below.refl _ _).drew
        obtain ⟨fa0, fa1, fa2, fa3, fb0, fb1, fb2, fb3, fx0, fx1, fx2, fx3, fy0, fy1, fy2, fy3, fn0, fn1, fn2, fn3, fq0, fq1, fq2, fq3⟩ := HK12.out W12 (Below.refl _ _)
        go_upto_region 13 with fail
        go_cut [121] (fun v wx => v = .bool false ∧ Below W12.heap.size W12 wx)
        case first =>
         as_aux_lemma =>
          go_region_held3 (fun W => W.cell? ⟨w.heap.size, 0, none⟩ = some (.int .i64 A.how) ∧ W.cell? ⟨w.heap.size, 1, none⟩ = some (.string (sB A.nt)) ∧ W.cell? ⟨w.heap.size, 2, none⟩ = some (.slice pa A.sp.length cap) ∧ W.cell? ⟨w.heap.size, 3, none⟩ = some (.int .i64 A.pr) ∧ W.cell? ⟨w.heap.size + 1, 0, none⟩ = some (.int .i64 B.how) ∧ W.cell? ⟨w.heap.size + 1, 1, none⟩ = some (.string (sB B.nt)) ∧ W.cell? ⟨w.heap.size + 1, 2, none⟩ = some (.slice pb B.sp.length cbp) ∧ W.cell? ⟨w.heap.size + 1, 3, none⟩ = some (.int .i64 B.pr)) (first | exact ⟨fa0, fa1, fa2, fa3, fb0, fb1, fb2, fb3⟩ | go_keep) (first
            | (go_at_call 19; have hq := allows_p A x (wdV A (.slice pa A.sp.length cap)) _ ⟨_, rfl, TxR.below HR12.out.1 HB.out⟩ (inc_alw HW.out.1) (by have := HW.out.2.2.1; omega); rw [hpA] at hq; (with_reducible refine Calls.mono hq ?_); clear hq; rintro e w3 ⟨rfl, hb3⟩; have hbb := HB.out.trans (hb3.mono HB.out.size); clear HB fa0 fa1 fa2 fa3 fb0 fb1 fb2 fb3 fx0 fx1 fx2 fx3 fy0 fy1 fy2 fy3 fn0 fn1 fn2 fn3 fq0 fq1 fq2 fq3; obtain ⟨fa0, fa1, fa2, fa3, fb0, fb1, fb2, fb3, fx0, fx1, fx2, fx3, fy0, fy1, fy2, fy3, fn0, fn1, fn2, fn3, fq0, fq1, fq2, fq3⟩ := HK12.out _ hbb; have HB : Hid _ := hbb; clear hbb hb3)
            | (go_at_call 14; have hq := of_p A (wdV A (.slice pa A.sp.length cap)) _ ⟨_, rfl, TxR.below HR12.out.1 HB.out⟩; (with_reducible refine Calls.mono hq ?_); clear hq; rintro e w4 ⟨v4, rfl, hw4, hb4⟩; obtain ⟨o4, d4, rfl⟩ := hw4.form; have HOA : Hid (WdV _ _ A) := hw4; clear hw4; have hbb := HB.out.trans (hb4.mono HB.out.size); clear HB fa0 fa1 fa2 fa3 fb0 fb1 fb2 fb3 fx0 fx1 fx2 fx3 fy0 fy1 fy2 fy3 fn0 fn1 fn2 fn3 fq0 fq1 fq2 fq3; obtain ⟨fa0, fa1, fa2, fa3, fb0, fb1, fb2, fb3, fx0, fx1, fx2, fx3, fy0, fy1, fy2, fy3, fn0, fn1, fn2, fn3, fq0, fq1, fq2, fq3⟩ := HK12.out _ hbb; have HB : Hid _ := hbb; clear hbb hb4)
            | (go_at_call 14; have hq := of_p B (wdV B (.slice pb B.sp.length cbp)) _ ⟨_, rfl, TxR.below HR12.out.2.1 HB.out⟩; (with_reducible refine Calls.mono hq ?_); clear hq; rintro e w7 ⟨v7, rfl, hw7, hb7⟩; obtain ⟨o7, d7, rfl⟩ := hw7.form; have hk' := WdV.below HOA.out hb7; clear HOA; have HOA : Hid (WdV _ _ A) := hk'; clear hk'; have HOB : Hid (WdV _ _ B) := hw7; clear hw7; have hbb := HB.out.trans (hb7.mono HB.out.size); clear HB fa0 fa1 fa2 fa3 fb0 fb1 fb2 fb3 fx0 fx1 fx2 fx3 fy0 fy1 fy2 fy3 fn0 fn1 fn2 fn3 fq0 fq1 fq2 fq3; obtain ⟨fa0, fa1, fa2, fa3, fb0, fb1, fb2, fb3, fx0, fx1, fx2, fx3, fy0, fy1, fy2, fy3, fn0, fn1, fn2, fn3, fq0, fq1, fq2, fq3⟩ := HK12.out _ hbb; have HB : Hid _ := hbb; clear hbb hb7)
            | (go_at_call 20; have hq := rallows_p A x (wdV A (.slice o4 A.sp.length d4)) _ HOA.out (by have := HW.out.2.2.1; omega); rw [hrA] at hq; (with_reducible refine Calls.mono hq ?_); clear hq; rintro e w5 ⟨rfl, hb5⟩; have hbb := HB.out.trans (hb5.mono HB.out.size); clear HB fa0 fa1 fa2 fa3 fb0 fb1 fb2 fb3 fx0 fx1 fx2 fx3 fy0 fy1 fy2 fy3 fn0 fn1 fn2 fn3 fq0 fq1 fq2 fq3; obtain ⟨fa0, fa1, fa2, fa3, fb0, fb1, fb2, fb3, fx0, fx1, fx2, fx3, fy0, fy1, fy2, fy3, fn0, fn1, fn2, fn3, fq0, fq1, fq2, fq3⟩ := HK12.out _ hbb; have HB : Hid _ := hbb; clear hbb hb5)
            | (go_at_call 21; have hq := sub_p A B (wdV A (.slice pa A.sp.length cap)) (wdV B (.slice pb B.sp.length cbp)) _ ⟨_, rfl, TxR.below HR12.out.1 HB.out⟩ ⟨_, rfl, TxR.below HR12.out.2.1 HB.out⟩ (inc_alw HW.out.1) (inc_alw HW.out.2.1) (by have := HW.out.2.2.1; omega) (by have := HW.out.2.2.2; omega); rw [hsu] at hq; (with_reducible refine Calls.mono hq ?_); clear hq; rintro e w6 ⟨rfl, hb6⟩; have hbb := HB.out.trans (hb6.mono HB.out.size); clear HB fa0 fa1 fa2 fa3 fb0 fb1 fb2 fb3 fx0 fx1 fx2 fx3 fy0 fy1 fy2 fy3 fn0 fn1 fn2 fn3 fq0 fq1 fq2 fq3; obtain ⟨fa0, fa1, fa2, fa3, fb0, fb1, fb2, fb3, fx0, fx1, fx2, fx3, fy0, fy1, fy2, fy3, fn0, fn1, fn2, fn3, fq0, fq1, fq2, fq3⟩ := HK12.out _ hbb; have HB : Hid _ := hbb; clear hbb hb6)
            | (go_at_call 22; have hq := rsub_p A B (wdV A (.slice o4 A.sp.length d4)) (wdV B (.slice o7 B.sp.length d7)) _ HOA.out HOB.out (by have := HW.out.2.2.1; omega) (by have := HW.out.2.2.2; omega); rw [hrs] at hq; (with_reducible refine Calls.mono hq ?_); clear hq; rintro e w8 ⟨rfl, hb8⟩; have hbb := HB.out.trans (hb8.mono HB.out.size); clear HB fa0 fa1 fa2 fa3 fb0 fb1 fb2 fb3 fx0 fx1 fx2 fx3 fy0 fy1 fy2 fy3 fn0 fn1 fn2 fn3 fq0 fq1 fq2 fq3; obtain ⟨fa0, fa1, fa2, fa3, fb0, fb1, fb2, fb3, fx0, fx1, fx2, fx3, fy0, fy1, fy2, fy3, fn0, fn1, fn2, fn3, fq0, fq1, fq2, fq3⟩ := HK12.out _ hbb; have HB : Hid _ := hbb; clear hbb hb8)
            | (go_at_call 23; have hq := same_p A B (wdV A (.slice pa A.sp.length cap)) (wdV B (.slice pb B.sp.length cbp)) _ ⟨_, rfl, TxR.below HR12.out.1 HB.out⟩ ⟨_, rfl, TxR.below HR12.out.2.1 HB.out⟩ (by have := HW.out.2.2.1; omega) (by have := HW.out.2.2.2; omega); rw [hsa] at hq; (with_reducible refine Calls.mono hq ?_); clear hq; rintro e w6 ⟨rfl, hb6⟩; have hbb := HB.out.trans (hb6.mono HB.out.size); clear HB fa0 fa1 fa2 fa3 fb0 fb1 fb2 fb3 fx0 fx1 fx2 fx3 fy0 fy1 fy2 fy3 fn0 fn1 fn2 fn3 fq0 fq1 fq2 fq3; obtain ⟨fa0, fa1, fa2, fa3, fb0, fb1, fb2, fb3, fx0, fx1, fx2, fx3, fy0, fy1, fy2, fy3, fn0, fn1, fn2, fn3, fq0, fq1, fq2, fq3⟩ := HK12.out _ hbb; have HB : Hid _ := hbb; clear hbb hb6)
            | (go_at_call 24; have hq := rsame_p A B (wdV A (.slice o4 A.sp.length d4)) (wdV B (.slice o7 B.sp.length d7)) _ HOA.out HOB.out (by have := HW.out.2.2.1; omega) (by have := HW.out.2.2.2; omega); rw [hrq] at hq; (with_reducible refine Calls.mono hq ?_); clear hq; rintro e w8 ⟨rfl, hb8⟩; have hbb := HB.out.trans (hb8.mono HB.out.size); clear HB fa0 fa1 fa2 fa3 fb0 fb1 fb2 fb3 fx0 fx1 fx2 fx3 fy0 fy1 fy2 fy3 fn0 fn1 fn2 fn3 fq0 fq1 fq2 fq3; obtain ⟨fa0, fa1, fa2, fa3, fb0, fb1, fb2, fb3, fx0, fx1, fx2, fx3, fy0, fy1, fy2, fy3, fn0, fn1, fn2, fn3, fq0, fq1, fq2, fq3⟩ := HK12.out _ hbb; have HB : Hid _ := hbb; clear hbb hb8))
          all_goals
            go_wp2_with fail
            go_meet
            case rel => exact ⟨by simp, HB.out⟩
        case rest =>
         as_aux_lemma =>
          obtain ⟨rfl, hbc⟩ := hcut
          clear HB fa0 fa1 fa2 fa3 fb0 fb1 fb2 fb3 fx0 fx1 fx2 fx3 fy0 fy1 fy2 fy3 fn0 fn1 fn2 fn3 fq0 fq1 fq2 fq3
          obtain ⟨W13, rfl⟩ : ∃ W, W = wc := ⟨_, rfl⟩
          have HB : Hid (Below W12.heap.size W12 W13.drew) := hbc.drew
          have HBC : Hid (Below W12.heap.size W12 W13) := hbc
          clear hbc
          obtain ⟨fa0, fa1, fa2, fa3, fb0, fb1, fb2, fb3, fx0, fx1, fx2, fx3, fy0, fy1, fy2, fy3, fn0, fn1, fn2, fn3, fq0, fq1, fq2, fq3⟩ := HK12.out W13 HBC.out
          go_upto_region 15 with fail
          go_cut [148] (fun v wx => v = .bool false ∧ Below W12.heap.size W12 wx)
          case first =>
           as_aux_lemma =>
            cases ok
            · go_quiet (fail)
              all_goals
                go_wp2_with fail
                go_meet
                case rel => exact ⟨by simp, (bdrewN HBC.out _)⟩
            · have hbw := both_wr HW.out.1 HW.out.2.1 (by rw [HXX.out.1])
              rw [HXX.out.1] at hbw
              have hwx : Wr X := hbw.1
              have hss := rsame_refl hwx
              have hrg := (rgt_iff X).2 hwx
              have hmx : (alw X).has x = (p && tb) := by rw [← hpA, ← hpB]; exact hbw.2 (some x)
              clear hbw
              cases p
              case false =>
                refine wp_region_held_drew (S := (fun W => W.cell? ⟨w.heap.size, 0, none⟩ = some (.int .i64 A.how) ∧ W.cell? ⟨w.heap.size, 1, none⟩ = some (.string (sB A.nt)) ∧ W.cell? ⟨w.heap.size, 2, none⟩ = some (.slice pa A.sp.length cap) ∧ W.cell? ⟨w.heap.size, 3, none⟩ = some (.int .i64 A.pr) ∧ W.cell? ⟨w.heap.size + 1, 0, none⟩ = some (.int .i64 B.how) ∧ W.cell? ⟨w.heap.size + 1, 1, none⟩ = some (.string (sB B.nt)) ∧ W.cell? ⟨w.heap.size + 1, 2, none⟩ = some (.slice pb B.sp.length cbp) ∧ W.cell? ⟨w.heap.size + 1, 3, none⟩ = some (.int .i64 B.pr) ∧ W.cell? ⟨w5.heap.size, 0, none⟩ = some (.int .i64 X.how) ∧ W.cell? ⟨w5.heap.size, 1, none⟩ = some (.string (sB X.nt)) ∧ W.cell? ⟨w5.heap.size, 2, none⟩ = some (.slice x5 X.sp.length c5') ∧ W.cell? ⟨w5.heap.size, 3, none⟩ = some (.int .i64 X.pr) ∧ W.cell? ⟨T6, 0, none⟩ = some (.int .i64 X.how) ∧ W.cell? ⟨T6, 1, none⟩ = some (.string (sB X.nt)) ∧ W.cell? ⟨T6, 2, none⟩ = some (.slice x6 X.sp.length c6') ∧ W.cell? ⟨T6, 3, none⟩ = some (.int .i64 X.pr) ∧ W.cell? ⟨w7.heap.size, 0, none⟩ = some (.int .i64 N.how) ∧ W.cell? ⟨w7.heap.size, 1, none⟩ = some (.string (sB N.nt)) ∧ W.cell? ⟨w7.heap.size, 2, none⟩ = some (.slice x7 N.sp.length c7') ∧ W.cell? ⟨w7.heap.size, 3, none⟩ = some (.int .i64 N.pr) ∧ W.cell? ⟨T8, 0, none⟩ = some (.int .i64 N.how) ∧ W.cell? ⟨T8, 1, none⟩ = some (.string (sB N.nt)) ∧ W.cell? ⟨T8, 2, none⟩ = some (.slice x8 N.sp.length c8') ∧ W.cell? ⟨T8, 3, none⟩ = some (.int .i64 N.pr))) (by kernel_rfl) ?_ (fun hHeld => ?_)
                · first
                  | exact ⟨fa0, fa1, fa2, fa3, fb0, fb1, fb2, fb3, fx0, fx1, fx2, fx3, fy0, fy1, fy2, fy3, fn0, fn1, fn2, fn3, fq0, fq1, fq2, fq3⟩
                  | go_keep
                refine wpAnyH_take (i := 0) (v := ?vv0_15) (oi := { dst := some 122, op := Op.move (Operand.tmp 8), type := 4, pos := "law.go:77", after := #[], guard := none }) rfl (by kernel_rfl) (by kernel_rfl) (by kernel_rfl) (fun _ _ _ h => h) (Or.inl ⟨by rfl, ?hy0_15⟩) (by assumption) ?rr0_15
                case hy0_15 =>
                  intro w hSw
                  try dsimp only at hSw
                  go_simp
                  all_goals with_reducible rfl
                try simp only [Act.put, List.setIfInBounds_toArray, List.set_cons_zero, List.set_cons_succ]
                refine wpAnyH_take (i := 1) (v := ?vv1_15) (oi := { dst := some 123, op := Op.move (Operand.tmp 122), type := 4, pos := "law.go:77", after := #[{ on := 0, ground := Ground.data }], guard := none }) rfl (by kernel_rfl) (by kernel_rfl) (by kernel_rfl) (fun _ _ _ h => h) (Or.inl ⟨by rfl, ?hy1_15⟩) (by assumption) ?rr1_15
                case hy1_15 =>
                  intro w hSw
                  try dsimp only at hSw
                  go_simp
                  all_goals with_reducible rfl
                try simp only [Act.put, List.setIfInBounds_toArray, List.set_cons_zero, List.set_cons_succ]
                refine wpAnyH_take (i := 2) (v := ?vv2_15) (oi := { dst := some 124, op := Op.load 25 (Operand.tmp 7), type := 25, pos := "law.go:77", after := #[{ on := 1, ground := Ground.guard }], guard := some (1, true) }) rfl (by kernel_rfl) (by kernel_rfl) (by kernel_rfl) (fun _ _ _ h => h) (Or.inl ⟨by rfl, ?hy2_15⟩) (by assumption) ?rr2_15
                case hy2_15 =>
                  intro w hSw
                  try dsimp only at hSw
                  go_simp
                  all_goals with_reducible rfl
                try simp only [Act.put, List.setIfInBounds_toArray, List.set_cons_zero, List.set_cons_succ]
                refine wpAnyH_take (i := 4) (v := ?vv4_15) (oi := { dst := some 126, op := Op.load 29 (Operand.tmp 9), type := 29, pos := "law.go:77", after := #[{ on := 1, ground := Ground.guard }], guard := some (1, true) }) rfl (by kernel_rfl) (by kernel_rfl) (by kernel_rfl) (fun _ _ _ h => h) (Or.inl ⟨by rfl, ?hy4_15⟩) (by assumption) ?rr4_15
                case hy4_15 =>
                  intro w hSw
                  try dsimp only at hSw
                  go_simp
                  all_goals with_reducible rfl
                try simp only [Act.put, List.setIfInBounds_toArray, List.set_cons_zero, List.set_cons_succ]
                refine wpAnyH_ready (rs := [3]) (by kernel_rfl) (by simp) ?_
                refine AllReadyH.cons (o := { dst := some 125, op := Op.call { callee := Callee.value (Operand.func 14), args := #[Operand.tmp 124], argTypes := #[25] }, type := 29, pos := "law.go:77", after := #[{ on := 2, ground := Ground.data }, { on := 1, ground := Ground.chain }, { on := 1, ground := Ground.guard }], guard := some (1, true) }) rfl (fun K hK => ?_) AllReadyH.nil
                go_simp
                (go_at_call 14; have hq := of_p X (wdV X (.slice x5 X.sp.length c5')) _ ⟨_, rfl, TxR.below HR12.out.2.2.1 HB.out⟩; (with_reducible refine Calls.mono hq ?_); clear hq; rintro e w4 ⟨v4, rfl, hw4, hb4⟩; obtain ⟨o4, d4, rfl⟩ := hw4.form; have HOX : Hid (WdV _ _ X) := hw4; clear hw4; have hbb := HB.out.trans (hb4.mono HB.out.size); clear HB fa0 fa1 fa2 fa3 fb0 fb1 fb2 fb3 fx0 fx1 fx2 fx3 fy0 fy1 fy2 fy3 fn0 fn1 fn2 fn3 fq0 fq1 fq2 fq3; obtain ⟨fa0, fa1, fa2, fa3, fb0, fb1, fb2, fb3, fx0, fx1, fx2, fx3, fy0, fy1, fy2, fy3, fn0, fn1, fn2, fn3, fq0, fq1, fq2, fq3⟩ := HK12.out _ hbb; have HB : Hid _ := hbb; clear hbb hb4)
                try go_wp2_with fail
                refine hK.out _ _ ?_ (fun hHeld => ?_)
                · first
                  | exact ⟨fa0, fa1, fa2, fa3, fb0, fb1, fb2, fb3, fx0, fx1, fx2, fx3, fy0, fy1, fy2, fy3, fn0, fn1, fn2, fn3, fq0, fq1, fq2, fq3⟩
                  | go_keep
                clear hK K
                try simp only [Act.put, List.setIfInBounds_toArray, List.set_cons_zero, List.set_cons_succ]
                refine wpAnyH_ready (rs := [5]) (by kernel_rfl) (by simp) ?_
                refine AllReadyH.cons (o := { dst := some 127, op := Op.call { callee := Callee.value (Operand.func 24), args := #[Operand.tmp 125, Operand.tmp 126], argTypes := #[29, 29] }, type := 4, pos := "law.go:77", after := #[{ on := 3, ground := Ground.data }, { on := 4, ground := Ground.data }, { on := 3, ground := Ground.chain }, { on := 1, ground := Ground.guard }], guard := some (1, true) }) rfl (fun K hK => ?_) AllReadyH.nil
                go_simp
                (go_at_call 24; have hq := rsame_p X X (wdV X (.slice o4 X.sp.length d4)) (wdV X (.slice x6 X.sp.length c6')) _ HOX.out ⟨_, rfl, TxR.below HR12.out.2.2.2.1 HB.out⟩ (by have := HXX.out.2.1; omega) (by have := HXX.out.2.1; omega); rw [hss] at hq; (with_reducible refine Calls.mono hq ?_); clear hq; rintro e w5 ⟨rfl, hb5⟩; have hbb := HB.out.trans (hb5.mono HB.out.size); clear HB fa0 fa1 fa2 fa3 fb0 fb1 fb2 fb3 fx0 fx1 fx2 fx3 fy0 fy1 fy2 fy3 fn0 fn1 fn2 fn3 fq0 fq1 fq2 fq3; obtain ⟨fa0, fa1, fa2, fa3, fb0, fb1, fb2, fb3, fx0, fx1, fx2, fx3, fy0, fy1, fy2, fy3, fn0, fn1, fn2, fn3, fq0, fq1, fq2, fq3⟩ := HK12.out _ hbb; have HB : Hid _ := hbb; clear hbb hb5)
                try go_wp2_with fail
                refine hK.out _ _ ?_ (fun hHeld => ?_)
                · first
                  | exact ⟨fa0, fa1, fa2, fa3, fb0, fb1, fb2, fb3, fx0, fx1, fx2, fx3, fy0, fy1, fy2, fy3, fn0, fn1, fn2, fn3, fq0, fq1, fq2, fq3⟩
                  | go_keep
                clear hK K
                try simp only [Act.put, List.setIfInBounds_toArray, List.set_cons_zero, List.set_cons_succ]
                refine wpAnyH_take (i := 6) (v := ?vv6_15) (oi := { dst := some 128, op := Op.unOp UnOp.not 4 (Operand.tmp 127), type := 4, pos := "law.go:77", after := #[{ on := 5, ground := Ground.data }, { on := 1, ground := Ground.guard }], guard := some (1, true) }) rfl (by kernel_rfl) (by kernel_rfl) (by kernel_rfl) (fun _ _ _ h => h) (Or.inl ⟨by rfl, ?hy6_15⟩) (by assumption) ?rr6_15
                case hy6_15 =>
                  intro w hSw
                  try dsimp only at hSw
                  go_simp
                  all_goals with_reducible rfl
                try simp only [Act.put, List.setIfInBounds_toArray, List.set_cons_zero, List.set_cons_succ]
                refine wpAnyH_take (i := 7) (v := ?vv7_15) (oi := { dst := some 129, op := Op.move (Operand.tmp 128), type := 4, pos := "law.go:77", after := #[{ on := 6, ground := Ground.data }, { on := 5, ground := Ground.chain }, { on := 1, ground := Ground.guard }], guard := some (1, true) }) rfl (by kernel_rfl) (by kernel_rfl) (by kernel_rfl) (fun _ _ _ h => h) (Or.inl ⟨by rfl, ?hy7_15⟩) (by assumption) ?rr7_15
                case hy7_15 =>
                  intro w hSw
                  try dsimp only at hSw
                  go_simp
                  all_goals with_reducible rfl
                try simp only [Act.put, List.setIfInBounds_toArray, List.set_cons_zero, List.set_cons_succ]
                refine wpAnyH_take (i := 8) (v := ?vv8_15) (oi := { dst := some 130, op := Op.load 25 (Operand.tmp 7), type := 25, pos := "law.go:77", after := #[{ on := 7, ground := Ground.guard }], guard := some (7, false) }) rfl (by kernel_rfl) (by kernel_rfl) (by kernel_rfl) (fun _ _ _ h => h) (Or.inl ⟨by rfl, ?hy8_15⟩) (by assumption) ?rr8_15
                case hy8_15 =>
                  intro w hSw
                  try dsimp only at hSw
                  go_simp
                  all_goals with_reducible rfl
                try simp only [Act.put, List.setIfInBounds_toArray, List.set_cons_zero, List.set_cons_succ]
                refine wpAnyH_ready (rs := [9]) (by kernel_rfl) (by simp) ?_
                refine AllReadyH.cons (o := { dst := some 131, op := Op.call { callee := Callee.value (Operand.func 11), args := #[Operand.tmp 130], argTypes := #[25] }, type := 4, pos := "law.go:77", after := #[{ on := 8, ground := Ground.data }, { on := 7, ground := Ground.chain }, { on := 7, ground := Ground.guard }], guard := some (7, false) }) rfl (fun K hK => ?_) AllReadyH.nil
                go_simp
                (go_at_call 11; have hq := right_p X (wdV X (.slice x5 X.sp.length c5')) _ ⟨_, rfl, TxR.below HR12.out.2.2.1 HB.out⟩ (by have := HXX.out.2.1; unfold maxLen; omega); rw [hrg] at hq; (with_reducible refine Calls.mono hq ?_); clear hq; rintro e w6 ⟨rfl, hb6⟩; have hbb := HB.out.trans (hb6.mono HB.out.size); clear HB fa0 fa1 fa2 fa3 fb0 fb1 fb2 fb3 fx0 fx1 fx2 fx3 fy0 fy1 fy2 fy3 fn0 fn1 fn2 fn3 fq0 fq1 fq2 fq3; obtain ⟨fa0, fa1, fa2, fa3, fb0, fb1, fb2, fb3, fx0, fx1, fx2, fx3, fy0, fy1, fy2, fy3, fn0, fn1, fn2, fn3, fq0, fq1, fq2, fq3⟩ := HK12.out _ hbb; have HB : Hid _ := hbb; clear hbb hb6)
                try go_wp2_with fail
                refine hK.out _ _ ?_ (fun hHeld => ?_)
                · first
                  | exact ⟨fa0, fa1, fa2, fa3, fb0, fb1, fb2, fb3, fx0, fx1, fx2, fx3, fy0, fy1, fy2, fy3, fn0, fn1, fn2, fn3, fq0, fq1, fq2, fq3⟩
                  | go_keep
                clear hK K
                try simp only [Act.put, List.setIfInBounds_toArray, List.set_cons_zero, List.set_cons_succ]
                refine wpAnyH_take (i := 10) (v := ?vv10_15) (oi := { dst := some 132, op := Op.unOp UnOp.not 4 (Operand.tmp 131), type := 4, pos := "law.go:77", after := #[{ on := 9, ground := Ground.data }, { on := 7, ground := Ground.guard }], guard := some (7, false) }) rfl (by kernel_rfl) (by kernel_rfl) (by kernel_rfl) (fun _ _ _ h => h) (Or.inl ⟨by rfl, ?hy10_15⟩) (by assumption) ?rr10_15
                case hy10_15 =>
                  intro w hSw
                  try dsimp only at hSw
                  go_simp
                  all_goals with_reducible rfl
                try simp only [Act.put, List.setIfInBounds_toArray, List.set_cons_zero, List.set_cons_succ]
                refine wpAnyH_take (i := 11) (v := ?vv11_15) (oi := { dst := some 133, op := Op.pick (Operand.tmp 129) (Operand.const (Value.bool true)) (Operand.tmp 132), type := 4, pos := "law.go:77", after := #[{ on := 7, ground := Ground.data }, { on := 10, ground := Ground.data }, { on := 1, ground := Ground.guard }], guard := some (1, true) }) rfl (by kernel_rfl) (by kernel_rfl) (by kernel_rfl) (fun _ _ _ h => h) (Or.inl ⟨by rfl, ?hy11_15⟩) (by assumption) ?rr11_15
                case hy11_15 =>
                  intro w hSw
                  try dsimp only at hSw
                  go_simp
                  all_goals with_reducible rfl
                try simp only [Act.put, List.setIfInBounds_toArray, List.set_cons_zero, List.set_cons_succ]
                refine wpAnyH_take (i := 12) (v := ?vv12_15) (oi := { dst := some 134, op := Op.move (Operand.tmp 133), type := 4, pos := "law.go:77", after := #[{ on := 11, ground := Ground.data }, { on := 9, ground := Ground.chain }, { on := 1, ground := Ground.guard }], guard := some (1, true) }) rfl (by kernel_rfl) (by kernel_rfl) (by kernel_rfl) (fun _ _ _ h => h) (Or.inl ⟨by rfl, ?hy12_15⟩) (by assumption) ?rr12_15
                case hy12_15 =>
                  intro w hSw
                  try dsimp only at hSw
                  go_simp
                  all_goals with_reducible rfl
                try simp only [Act.put, List.setIfInBounds_toArray, List.set_cons_zero, List.set_cons_succ]
                refine wpAnyH_take (i := 13) (v := ?vv13_15) (oi := { dst := some 135, op := Op.load 25 (Operand.tmp 7), type := 25, pos := "law.go:77", after := #[{ on := 12, ground := Ground.guard }], guard := some (12, false) }) rfl (by kernel_rfl) (by kernel_rfl) (by kernel_rfl) (fun _ _ _ h => h) (Or.inl ⟨by rfl, ?hy13_15⟩) (by assumption) ?rr13_15
                case hy13_15 =>
                  intro w hSw
                  try dsimp only at hSw
                  go_simp
                  all_goals with_reducible rfl
                try simp only [Act.put, List.setIfInBounds_toArray, List.set_cons_zero, List.set_cons_succ]
                refine wpAnyH_take (i := 14) (v := ?vv14_15) (oi := { dst := some 136, op := Op.move (Operand.tmp 2), type := 9, pos := "law.go:77", after := #[{ on := 12, ground := Ground.guard }], guard := some (12, false) }) rfl (by kernel_rfl) (by kernel_rfl) (by kernel_rfl) (fun _ _ _ h => h) (Or.inl ⟨by rfl, ?hy14_15⟩) (by assumption) ?rr14_15
                case hy14_15 =>
                  intro w hSw
                  try dsimp only at hSw
                  go_simp
                  all_goals with_reducible rfl
                try simp only [Act.put, List.setIfInBounds_toArray, List.set_cons_zero, List.set_cons_succ]
                refine wpAnyH_take (i := 16) (v := ?vv16_15) (oi := { dst := some 138, op := Op.load 25 (Operand.tmp 3), type := 25, pos := "law.go:77", after := #[{ on := 12, ground := Ground.guard }], guard := some (12, false) }) rfl (by kernel_rfl) (by kernel_rfl) (by kernel_rfl) (fun _ _ _ h => h) (Or.inl ⟨by rfl, ?hy16_15⟩) (by assumption) ?rr16_15
                case hy16_15 =>
                  intro w hSw
                  try dsimp only at hSw
                  go_simp
                  all_goals with_reducible rfl
                try simp only [Act.put, List.setIfInBounds_toArray, List.set_cons_zero, List.set_cons_succ]
                refine wpAnyH_take (i := 17) (v := ?vv17_15) (oi := { dst := some 139, op := Op.move (Operand.tmp 2), type := 9, pos := "law.go:77", after := #[{ on := 12, ground := Ground.guard }], guard := some (12, false) }) rfl (by kernel_rfl) (by kernel_rfl) (by kernel_rfl) (fun _ _ _ h => h) (Or.inl ⟨by rfl, ?hy17_15⟩) (by assumption) ?rr17_15
                case hy17_15 =>
                  intro w hSw
                  try dsimp only at hSw
                  go_simp
                  all_goals with_reducible rfl
                try simp only [Act.put, List.setIfInBounds_toArray, List.set_cons_zero, List.set_cons_succ]
                refine wpAnyH_ready (rs := [15]) (by kernel_rfl) (by simp) ?_
                refine AllReadyH.cons (o := { dst := some 137, op := Op.call { callee := Callee.value (Operand.func 19), args := #[Operand.tmp 135, Operand.tmp 136], argTypes := #[25, 9] }, type := 4, pos := "law.go:77", after := #[{ on := 13, ground := Ground.data }, { on := 14, ground := Ground.data }, { on := 12, ground := Ground.chain }, { on := 12, ground := Ground.guard }], guard := some (12, false) }) rfl (fun K hK => ?_) AllReadyH.nil
                go_simp
                (go_at_call 19; have hq := allows_p X x (wdV X (.slice x5 X.sp.length c5')) _ ⟨_, rfl, TxR.below HR12.out.2.2.1 HB.out⟩ (inc_alw hwx) (by have := HXX.out.2.1; omega); rw [hmx] at hq; (with_reducible refine Calls.mono hq ?_); clear hq; rintro e w3 ⟨rfl, hb3⟩; have hbb := HB.out.trans (hb3.mono HB.out.size); clear HB fa0 fa1 fa2 fa3 fb0 fb1 fb2 fb3 fx0 fx1 fx2 fx3 fy0 fy1 fy2 fy3 fn0 fn1 fn2 fn3 fq0 fq1 fq2 fq3; obtain ⟨fa0, fa1, fa2, fa3, fb0, fb1, fb2, fb3, fx0, fx1, fx2, fx3, fy0, fy1, fy2, fy3, fn0, fn1, fn2, fn3, fq0, fq1, fq2, fq3⟩ := HK12.out _ hbb; have HB : Hid _ := hbb; clear hbb hb3)
                try go_wp2_with fail
                refine hK.out _ _ ?_ (fun hHeld => ?_)
                · first
                  | exact ⟨fa0, fa1, fa2, fa3, fb0, fb1, fb2, fb3, fx0, fx1, fx2, fx3, fy0, fy1, fy2, fy3, fn0, fn1, fn2, fn3, fq0, fq1, fq2, fq3⟩
                  | go_keep
                clear hK K
                try simp only [Act.put, List.setIfInBounds_toArray, List.set_cons_zero, List.set_cons_succ]
                refine wpAnyH_ready (rs := [18]) (by kernel_rfl) (by simp) ?_
                refine AllReadyH.cons (o := { dst := some 140, op := Op.call { callee := Callee.value (Operand.func 19), args := #[Operand.tmp 138, Operand.tmp 139], argTypes := #[25, 9] }, type := 4, pos := "law.go:77", after := #[{ on := 16, ground := Ground.data }, { on := 17, ground := Ground.data }, { on := 15, ground := Ground.chain }, { on := 12, ground := Ground.guard }], guard := some (12, false) }) rfl (fun K hK => ?_) AllReadyH.nil
                go_simp
                (go_at_call 19; have hq := allows_p A x (wdV A (.slice pa A.sp.length cap)) _ ⟨_, rfl, TxR.below HR12.out.1 HB.out⟩ (inc_alw HW.out.1) (by have := HW.out.2.2.1; omega); rw [hpA] at hq; (with_reducible refine Calls.mono hq ?_); clear hq; rintro e w3 ⟨rfl, hb3⟩; have hbb := HB.out.trans (hb3.mono HB.out.size); clear HB fa0 fa1 fa2 fa3 fb0 fb1 fb2 fb3 fx0 fx1 fx2 fx3 fy0 fy1 fy2 fy3 fn0 fn1 fn2 fn3 fq0 fq1 fq2 fq3; obtain ⟨fa0, fa1, fa2, fa3, fb0, fb1, fb2, fb3, fx0, fx1, fx2, fx3, fy0, fy1, fy2, fy3, fn0, fn1, fn2, fn3, fq0, fq1, fq2, fq3⟩ := HK12.out _ hbb; have HB : Hid _ := hbb; clear hbb hb3)
                try go_wp2_with fail
                refine hK.out _ _ ?_ (fun hHeld => ?_)
                · first
                  | exact ⟨fa0, fa1, fa2, fa3, fb0, fb1, fb2, fb3, fx0, fx1, fx2, fx3, fy0, fy1, fy2, fy3, fn0, fn1, fn2, fn3, fq0, fq1, fq2, fq3⟩
                  | go_keep
                clear hK K
                try simp only [Act.put, List.setIfInBounds_toArray, List.set_cons_zero, List.set_cons_succ]
                refine wpAnyH_take (i := 19) (v := ?vv19_15) (oi := { dst := some 141, op := Op.move (Operand.tmp 140), type := 4, pos := "law.go:77", after := #[{ on := 18, ground := Ground.data }, { on := 18, ground := Ground.chain }, { on := 12, ground := Ground.guard }], guard := some (12, false) }) rfl (by kernel_rfl) (by kernel_rfl) (by kernel_rfl) (fun _ _ _ h => h) (Or.inl ⟨by rfl, ?hy19_15⟩) (by assumption) ?rr19_15
                case hy19_15 =>
                  intro w hSw
                  try dsimp only at hSw
                  go_simp
                  all_goals with_reducible rfl
                try simp only [Act.put, List.setIfInBounds_toArray, List.set_cons_zero, List.set_cons_succ]
                refine wpAnyH_take (i := 20) (oi := { dst := some 142, op := Op.load 25 (Operand.tmp 4), type := 25, pos := "law.go:77", after := #[{ on := 19, ground := Ground.guard }], guard := some (19, true) }) (v := undef) rfl (by kernel_rfl) (by kernel_rfl) (by kernel_rfl) (fun _ _ _ h => h) (Or.inr ⟨by rfl, rfl⟩) (by assumption) ?_
                try simp only [Act.put, List.setIfInBounds_toArray, List.set_cons_zero, List.set_cons_succ]
                refine wpAnyH_take (i := 21) (oi := { dst := some 143, op := Op.move (Operand.tmp 2), type := 9, pos := "law.go:77", after := #[{ on := 19, ground := Ground.guard }], guard := some (19, true) }) (v := undef) rfl (by kernel_rfl) (by kernel_rfl) (by kernel_rfl) (fun _ _ _ h => h) (Or.inr ⟨by rfl, rfl⟩) (by assumption) ?_
                try simp only [Act.put, List.setIfInBounds_toArray, List.set_cons_zero, List.set_cons_succ]
                refine wpAnyH_take (i := 22) (oi := { dst := some 144, op := Op.call { callee := Callee.value (Operand.func 19), args := #[Operand.tmp 142, Operand.tmp 143], argTypes := #[25, 9] }, type := 4, pos := "law.go:77", after := #[{ on := 20, ground := Ground.data }, { on := 21, ground := Ground.data }, { on := 19, ground := Ground.chain }, { on := 19, ground := Ground.guard }], guard := some (19, true) }) (v := undef) rfl (by kernel_rfl) (by kernel_rfl) (by kernel_rfl) (fun _ _ _ h => h) (Or.inr ⟨by rfl, rfl⟩) (by assumption) ?_
                try simp only [Act.put, List.setIfInBounds_toArray, List.set_cons_zero, List.set_cons_succ]
                refine wpAnyH_take (i := 23) (v := ?vv23_15) (oi := { dst := some 145, op := Op.pick (Operand.tmp 141) (Operand.tmp 144) (Operand.const (Value.bool false)), type := 4, pos := "law.go:77", after := #[{ on := 19, ground := Ground.data }, { on := 22, ground := Ground.data }, { on := 12, ground := Ground.guard }], guard := some (12, false) }) rfl (by kernel_rfl) (by kernel_rfl) (by kernel_rfl) (fun _ _ _ h => h) (Or.inl ⟨by rfl, ?hy23_15⟩) (by assumption) ?rr23_15
                case hy23_15 =>
                  intro w hSw
                  try dsimp only at hSw
                  go_simp
                  all_goals with_reducible rfl
                try simp only [Act.put, List.setIfInBounds_toArray, List.set_cons_zero, List.set_cons_succ]
                refine wpAnyH_take (i := 24) (v := ?vv24_15) (oi := { dst := some 146, op := Op.binOp BinOp.neq 4 (Operand.tmp 137) (Operand.tmp 145) 4, type := 4, pos := "law.go:77", after := #[{ on := 15, ground := Ground.data }, { on := 23, ground := Ground.data }, { on := 12, ground := Ground.guard }], guard := some (12, false) }) rfl (by kernel_rfl) (by kernel_rfl) (by kernel_rfl) (fun _ _ _ h => h) (Or.inl ⟨by rfl, ?hy24_15⟩) (by assumption) ?rr24_15
                case hy24_15 =>
                  intro w hSw
                  try dsimp only at hSw
                  go_simp
                  all_goals with_reducible rfl
                try simp only [Act.put, List.setIfInBounds_toArray, List.set_cons_zero, List.set_cons_succ]
                refine wpAnyH_take (i := 25) (v := ?vv25_15) (oi := { dst := some 147, op := Op.pick (Operand.tmp 134) (Operand.const (Value.bool true)) (Operand.tmp 146), type := 4, pos := "law.go:77", after := #[{ on := 12, ground := Ground.data }, { on := 24, ground := Ground.data }, { on := 1, ground := Ground.guard }], guard := some (1, true) }) rfl (by kernel_rfl) (by kernel_rfl) (by kernel_rfl) (fun _ _ _ h => h) (Or.inl ⟨by rfl, ?hy25_15⟩) (by assumption) ?rr25_15
                case hy25_15 =>
                  intro w hSw
                  try dsimp only at hSw
                  go_simp
                  all_goals with_reducible rfl
                try simp only [Act.put, List.setIfInBounds_toArray, List.set_cons_zero, List.set_cons_succ]
                refine wpAnyH_take (i := 26) (v := ?vv26_15) (oi := { dst := some 148, op := Op.pick (Operand.tmp 123) (Operand.tmp 147) (Operand.const (Value.bool false)), type := 4, pos := "law.go:77", after := #[{ on := 1, ground := Ground.data }, { on := 25, ground := Ground.data }], guard := none }) rfl (by kernel_rfl) (by kernel_rfl) (by kernel_rfl) (fun _ _ _ h => h) (Or.inl ⟨by rfl, ?hy26_15⟩) (by assumption) ?rr26_15
                case hy26_15 =>
                  intro w hSw
                  try dsimp only at hSw
                  go_simp
                  all_goals with_reducible rfl
                try simp only [Act.put, List.setIfInBounds_toArray, List.set_cons_zero, List.set_cons_succ]
                refine wpAnyH_done (by kernel_rfl) ?_ _
                go_wp2_with fail
                go_meet
                case rel => exact ⟨by simp, HB.out⟩
              case true =>
                (go_region_held3 (fun W => W.cell? ⟨w.heap.size, 0, none⟩ = some (.int .i64 A.how) ∧ W.cell? ⟨w.heap.size, 1, none⟩ = some (.string (sB A.nt)) ∧ W.cell? ⟨w.heap.size, 2, none⟩ = some (.slice pa A.sp.length cap) ∧ W.cell? ⟨w.heap.size, 3, none⟩ = some (.int .i64 A.pr) ∧ W.cell? ⟨w.heap.size + 1, 0, none⟩ = some (.int .i64 B.how) ∧ W.cell? ⟨w.heap.size + 1, 1, none⟩ = some (.string (sB B.nt)) ∧ W.cell? ⟨w.heap.size + 1, 2, none⟩ = some (.slice pb B.sp.length cbp) ∧ W.cell? ⟨w.heap.size + 1, 3, none⟩ = some (.int .i64 B.pr) ∧ W.cell? ⟨w5.heap.size, 0, none⟩ = some (.int .i64 X.how) ∧ W.cell? ⟨w5.heap.size, 1, none⟩ = some (.string (sB X.nt)) ∧ W.cell? ⟨w5.heap.size, 2, none⟩ = some (.slice x5 X.sp.length c5') ∧ W.cell? ⟨w5.heap.size, 3, none⟩ = some (.int .i64 X.pr) ∧ W.cell? ⟨T6, 0, none⟩ = some (.int .i64 X.how) ∧ W.cell? ⟨T6, 1, none⟩ = some (.string (sB X.nt)) ∧ W.cell? ⟨T6, 2, none⟩ = some (.slice x6 X.sp.length c6') ∧ W.cell? ⟨T6, 3, none⟩ = some (.int .i64 X.pr) ∧ W.cell? ⟨w7.heap.size, 0, none⟩ = some (.int .i64 N.how) ∧ W.cell? ⟨w7.heap.size, 1, none⟩ = some (.string (sB N.nt)) ∧ W.cell? ⟨w7.heap.size, 2, none⟩ = some (.slice x7 N.sp.length c7') ∧ W.cell? ⟨w7.heap.size, 3, none⟩ = some (.int .i64 N.pr) ∧ W.cell? ⟨T8, 0, none⟩ = some (.int .i64 N.how) ∧ W.cell? ⟨T8, 1, none⟩ = some (.string (sB N.nt)) ∧ W.cell? ⟨T8, 2, none⟩ = some (.slice x8 N.sp.length c8') ∧ W.cell? ⟨T8, 3, none⟩ = some (.int .i64 N.pr)) (first | exact ⟨fa0, fa1, fa2, fa3, fb0, fb1, fb2, fb3, fx0, fx1, fx2, fx3, fy0, fy1, fy2, fy3, fn0, fn1, fn2, fn3, fq0, fq1, fq2, fq3⟩ | go_keep) (first
                | (go_at_call 14; have hq := of_p X (wdV X (.slice x5 X.sp.length c5')) _ ⟨_, rfl, TxR.below HR12.out.2.2.1 HB.out⟩; (with_reducible refine Calls.mono hq ?_); clear hq; rintro e w4 ⟨v4, rfl, hw4, hb4⟩; obtain ⟨o4, d4, rfl⟩ := hw4.form; have HOX : Hid (WdV _ _ X) := hw4; clear hw4; have hbb := HB.out.trans (hb4.mono HB.out.size); clear HB fa0 fa1 fa2 fa3 fb0 fb1 fb2 fb3 fx0 fx1 fx2 fx3 fy0 fy1 fy2 fy3 fn0 fn1 fn2 fn3 fq0 fq1 fq2 fq3; obtain ⟨fa0, fa1, fa2, fa3, fb0, fb1, fb2, fb3, fx0, fx1, fx2, fx3, fy0, fy1, fy2, fy3, fn0, fn1, fn2, fn3, fq0, fq1, fq2, fq3⟩ := HK12.out _ hbb; have HB : Hid _ := hbb; clear hbb hb4)
                | (go_at_call 24; have hq := rsame_p X X (wdV X (.slice o4 X.sp.length d4)) (wdV X (.slice x6 X.sp.length c6')) _ HOX.out ⟨_, rfl, TxR.below HR12.out.2.2.2.1 HB.out⟩ (by have := HXX.out.2.1; omega) (by have := HXX.out.2.1; omega); rw [hss] at hq; (with_reducible refine Calls.mono hq ?_); clear hq; rintro e w5 ⟨rfl, hb5⟩; have hbb := HB.out.trans (hb5.mono HB.out.size); clear HB fa0 fa1 fa2 fa3 fb0 fb1 fb2 fb3 fx0 fx1 fx2 fx3 fy0 fy1 fy2 fy3 fn0 fn1 fn2 fn3 fq0 fq1 fq2 fq3; obtain ⟨fa0, fa1, fa2, fa3, fb0, fb1, fb2, fb3, fx0, fx1, fx2, fx3, fy0, fy1, fy2, fy3, fn0, fn1, fn2, fn3, fq0, fq1, fq2, fq3⟩ := HK12.out _ hbb; have HB : Hid _ := hbb; clear hbb hb5)
                | (go_at_call 11; have hq := right_p X (wdV X (.slice x5 X.sp.length c5')) _ ⟨_, rfl, TxR.below HR12.out.2.2.1 HB.out⟩ (by have := HXX.out.2.1; unfold maxLen; omega); rw [hrg] at hq; (with_reducible refine Calls.mono hq ?_); clear hq; rintro e w6 ⟨rfl, hb6⟩; have hbb := HB.out.trans (hb6.mono HB.out.size); clear HB fa0 fa1 fa2 fa3 fb0 fb1 fb2 fb3 fx0 fx1 fx2 fx3 fy0 fy1 fy2 fy3 fn0 fn1 fn2 fn3 fq0 fq1 fq2 fq3; obtain ⟨fa0, fa1, fa2, fa3, fb0, fb1, fb2, fb3, fx0, fx1, fx2, fx3, fy0, fy1, fy2, fy3, fn0, fn1, fn2, fn3, fq0, fq1, fq2, fq3⟩ := HK12.out _ hbb; have HB : Hid _ := hbb; clear hbb hb6)
                | (go_at_call 19; have hq := allows_p X x (wdV X (.slice x5 X.sp.length c5')) _ ⟨_, rfl, TxR.below HR12.out.2.2.1 HB.out⟩ (inc_alw hwx) (by have := HXX.out.2.1; omega); rw [hmx] at hq; (with_reducible refine Calls.mono hq ?_); clear hq; rintro e w3 ⟨rfl, hb3⟩; have hbb := HB.out.trans (hb3.mono HB.out.size); clear HB fa0 fa1 fa2 fa3 fb0 fb1 fb2 fb3 fx0 fx1 fx2 fx3 fy0 fy1 fy2 fy3 fn0 fn1 fn2 fn3 fq0 fq1 fq2 fq3; obtain ⟨fa0, fa1, fa2, fa3, fb0, fb1, fb2, fb3, fx0, fx1, fx2, fx3, fy0, fy1, fy2, fy3, fn0, fn1, fn2, fn3, fq0, fq1, fq2, fq3⟩ := HK12.out _ hbb; have HB : Hid _ := hbb; clear hbb hb3)
                | (go_at_call 19; have hq := allows_p A x (wdV A (.slice pa A.sp.length cap)) _ ⟨_, rfl, TxR.below HR12.out.1 HB.out⟩ (inc_alw HW.out.1) (by have := HW.out.2.2.1; omega); rw [hpA] at hq; (with_reducible refine Calls.mono hq ?_); clear hq; rintro e w3 ⟨rfl, hb3⟩; have hbb := HB.out.trans (hb3.mono HB.out.size); clear HB fa0 fa1 fa2 fa3 fb0 fb1 fb2 fb3 fx0 fx1 fx2 fx3 fy0 fy1 fy2 fy3 fn0 fn1 fn2 fn3 fq0 fq1 fq2 fq3; obtain ⟨fa0, fa1, fa2, fa3, fb0, fb1, fb2, fb3, fx0, fx1, fx2, fx3, fy0, fy1, fy2, fy3, fn0, fn1, fn2, fn3, fq0, fq1, fq2, fq3⟩ := HK12.out _ hbb; have HB : Hid _ := hbb; clear hbb hb3)
                | (go_at_call 19; have hq := allows_p B x (wdV B (.slice pb B.sp.length cbp)) _ ⟨_, rfl, TxR.below HR12.out.2.1 HB.out⟩ (inc_alw HW.out.2.1) (by have := HW.out.2.2.2; omega); rw [hpB] at hq; (with_reducible refine Calls.mono hq ?_); clear hq; rintro e w3 ⟨rfl, hb3⟩; have hbb := HB.out.trans (hb3.mono HB.out.size); clear HB fa0 fa1 fa2 fa3 fb0 fb1 fb2 fb3 fx0 fx1 fx2 fx3 fy0 fy1 fy2 fy3 fn0 fn1 fn2 fn3 fq0 fq1 fq2 fq3; obtain ⟨fa0, fa1, fa2, fa3, fb0, fb1, fb2, fb3, fx0, fx1, fx2, fx3, fy0, fy1, fy2, fy3, fn0, fn1, fn2, fn3, fq0, fq1, fq2, fq3⟩ := HK12.out _ hbb; have HB : Hid _ := hbb; clear hbb hb3)))
                all_goals
                  go_wp2_with fail
                  go_meet
                  case rel => exact ⟨by simp, HB.out⟩
          case rest =>
           as_aux_lemma =>
            obtain ⟨rfl, hbc⟩ := hcut
            clear HB HBC fa0 fa1 fa2 fa3 fb0 fb1 fb2 fb3 fx0 fx1 fx2 fx3 fy0 fy1 fy2 fy3 fn0 fn1 fn2 fn3 fq0 fq1 fq2 fq3
            obtain ⟨W14, rfl⟩ : ∃ W, W = wc := ⟨_, rfl⟩
            have HB : Hid (Below W12.heap.size W12 W14.drew) := hbc.drew
            have HBC : Hid (Below W12.heap.size W12 W14) := hbc
            clear hbc
            obtain ⟨fa0, fa1, fa2, fa3, fb0, fb1, fb2, fb3, fx0, fx1, fx2, fx3, fy0, fy1, fy2, fy3, fn0, fn1, fn2, fn3, fq0, fq1, fq2, fq3⟩ := HK12.out W14 HBC.out
            go_upto_region 17 with fail
            cases is
            · go_quiet (fail)
              all_goals
                go_wp2_with fail
                go_ret
                exact ⟨rfl, HU.out.trans ((bdrewN HBC.out _).mono HU.out.size)⟩
            · have hbw := union_wr HW.out.1 HW.out.2.1 (by rw [HNN.out.1])
              rw [HNN.out.1] at hbw
              have hwn : Wr N := hbw.1
              have hss := rsame_refl hwn
              have hrg := (rgt_iff N).2 hwn
              have hmx : (alw N).has x = (p || tb) := by rw [← hpA, ← hpB]; exact hbw.2 (some x)
              clear hbw
              cases p
              case false =>
                (go_region_held3 (fun W => W.cell? ⟨w.heap.size, 0, none⟩ = some (.int .i64 A.how) ∧ W.cell? ⟨w.heap.size, 1, none⟩ = some (.string (sB A.nt)) ∧ W.cell? ⟨w.heap.size, 2, none⟩ = some (.slice pa A.sp.length cap) ∧ W.cell? ⟨w.heap.size, 3, none⟩ = some (.int .i64 A.pr) ∧ W.cell? ⟨w.heap.size + 1, 0, none⟩ = some (.int .i64 B.how) ∧ W.cell? ⟨w.heap.size + 1, 1, none⟩ = some (.string (sB B.nt)) ∧ W.cell? ⟨w.heap.size + 1, 2, none⟩ = some (.slice pb B.sp.length cbp) ∧ W.cell? ⟨w.heap.size + 1, 3, none⟩ = some (.int .i64 B.pr) ∧ W.cell? ⟨w5.heap.size, 0, none⟩ = some (.int .i64 X.how) ∧ W.cell? ⟨w5.heap.size, 1, none⟩ = some (.string (sB X.nt)) ∧ W.cell? ⟨w5.heap.size, 2, none⟩ = some (.slice x5 X.sp.length c5') ∧ W.cell? ⟨w5.heap.size, 3, none⟩ = some (.int .i64 X.pr) ∧ W.cell? ⟨T6, 0, none⟩ = some (.int .i64 X.how) ∧ W.cell? ⟨T6, 1, none⟩ = some (.string (sB X.nt)) ∧ W.cell? ⟨T6, 2, none⟩ = some (.slice x6 X.sp.length c6') ∧ W.cell? ⟨T6, 3, none⟩ = some (.int .i64 X.pr) ∧ W.cell? ⟨w7.heap.size, 0, none⟩ = some (.int .i64 N.how) ∧ W.cell? ⟨w7.heap.size, 1, none⟩ = some (.string (sB N.nt)) ∧ W.cell? ⟨w7.heap.size, 2, none⟩ = some (.slice x7 N.sp.length c7') ∧ W.cell? ⟨w7.heap.size, 3, none⟩ = some (.int .i64 N.pr) ∧ W.cell? ⟨T8, 0, none⟩ = some (.int .i64 N.how) ∧ W.cell? ⟨T8, 1, none⟩ = some (.string (sB N.nt)) ∧ W.cell? ⟨T8, 2, none⟩ = some (.slice x8 N.sp.length c8') ∧ W.cell? ⟨T8, 3, none⟩ = some (.int .i64 N.pr)) (first | exact ⟨fa0, fa1, fa2, fa3, fb0, fb1, fb2, fb3, fx0, fx1, fx2, fx3, fy0, fy1, fy2, fy3, fn0, fn1, fn2, fn3, fq0, fq1, fq2, fq3⟩ | go_keep) (first
                | (go_at_call 14; have hq := of_p N (wdV N (.slice x7 N.sp.length c7')) _ ⟨_, rfl, TxR.below HR12.out.2.2.2.2.1 HB.out⟩; (with_reducible refine Calls.mono hq ?_); clear hq; rintro e w4 ⟨v4, rfl, hw4, hb4⟩; obtain ⟨o4, d4, rfl⟩ := hw4.form; have HOX : Hid (WdV _ _ N) := hw4; clear hw4; have hbb := HB.out.trans (hb4.mono HB.out.size); clear HB fa0 fa1 fa2 fa3 fb0 fb1 fb2 fb3 fx0 fx1 fx2 fx3 fy0 fy1 fy2 fy3 fn0 fn1 fn2 fn3 fq0 fq1 fq2 fq3; obtain ⟨fa0, fa1, fa2, fa3, fb0, fb1, fb2, fb3, fx0, fx1, fx2, fx3, fy0, fy1, fy2, fy3, fn0, fn1, fn2, fn3, fq0, fq1, fq2, fq3⟩ := HK12.out _ hbb; have HB : Hid _ := hbb; clear hbb hb4)
                | (go_at_call 24; have hq := rsame_p N N (wdV N (.slice o4 N.sp.length d4)) (wdV N (.slice x8 N.sp.length c8')) _ HOX.out ⟨_, rfl, TxR.below HR12.out.2.2.2.2.2 HB.out⟩ (by have := HNN.out.2.1; omega) (by have := HNN.out.2.1; omega); rw [hss] at hq; (with_reducible refine Calls.mono hq ?_); clear hq; rintro e w5 ⟨rfl, hb5⟩; have hbb := HB.out.trans (hb5.mono HB.out.size); clear HB fa0 fa1 fa2 fa3 fb0 fb1 fb2 fb3 fx0 fx1 fx2 fx3 fy0 fy1 fy2 fy3 fn0 fn1 fn2 fn3 fq0 fq1 fq2 fq3; obtain ⟨fa0, fa1, fa2, fa3, fb0, fb1, fb2, fb3, fx0, fx1, fx2, fx3, fy0, fy1, fy2, fy3, fn0, fn1, fn2, fn3, fq0, fq1, fq2, fq3⟩ := HK12.out _ hbb; have HB : Hid _ := hbb; clear hbb hb5)
                | (go_at_call 11; have hq := right_p N (wdV N (.slice x7 N.sp.length c7')) _ ⟨_, rfl, TxR.below HR12.out.2.2.2.2.1 HB.out⟩ (by have := HNN.out.2.1; unfold maxLen; omega); rw [hrg] at hq; (with_reducible refine Calls.mono hq ?_); clear hq; rintro e w6 ⟨rfl, hb6⟩; have hbb := HB.out.trans (hb6.mono HB.out.size); clear HB fa0 fa1 fa2 fa3 fb0 fb1 fb2 fb3 fx0 fx1 fx2 fx3 fy0 fy1 fy2 fy3 fn0 fn1 fn2 fn3 fq0 fq1 fq2 fq3; obtain ⟨fa0, fa1, fa2, fa3, fb0, fb1, fb2, fb3, fx0, fx1, fx2, fx3, fy0, fy1, fy2, fy3, fn0, fn1, fn2, fn3, fq0, fq1, fq2, fq3⟩ := HK12.out _ hbb; have HB : Hid _ := hbb; clear hbb hb6)
                | (go_at_call 19; have hq := allows_p N x (wdV N (.slice x7 N.sp.length c7')) _ ⟨_, rfl, TxR.below HR12.out.2.2.2.2.1 HB.out⟩ (inc_alw hwn) (by have := HNN.out.2.1; omega); rw [hmx] at hq; (with_reducible refine Calls.mono hq ?_); clear hq; rintro e w3 ⟨rfl, hb3⟩; have hbb := HB.out.trans (hb3.mono HB.out.size); clear HB fa0 fa1 fa2 fa3 fb0 fb1 fb2 fb3 fx0 fx1 fx2 fx3 fy0 fy1 fy2 fy3 fn0 fn1 fn2 fn3 fq0 fq1 fq2 fq3; obtain ⟨fa0, fa1, fa2, fa3, fb0, fb1, fb2, fb3, fx0, fx1, fx2, fx3, fy0, fy1, fy2, fy3, fn0, fn1, fn2, fn3, fq0, fq1, fq2, fq3⟩ := HK12.out _ hbb; have HB : Hid _ := hbb; clear hbb hb3)
                | (go_at_call 19; have hq := allows_p A x (wdV A (.slice pa A.sp.length cap)) _ ⟨_, rfl, TxR.below HR12.out.1 HB.out⟩ (inc_alw HW.out.1) (by have := HW.out.2.2.1; omega); rw [hpA] at hq; (with_reducible refine Calls.mono hq ?_); clear hq; rintro e w3 ⟨rfl, hb3⟩; have hbb := HB.out.trans (hb3.mono HB.out.size); clear HB fa0 fa1 fa2 fa3 fb0 fb1 fb2 fb3 fx0 fx1 fx2 fx3 fy0 fy1 fy2 fy3 fn0 fn1 fn2 fn3 fq0 fq1 fq2 fq3; obtain ⟨fa0, fa1, fa2, fa3, fb0, fb1, fb2, fb3, fx0, fx1, fx2, fx3, fy0, fy1, fy2, fy3, fn0, fn1, fn2, fn3, fq0, fq1, fq2, fq3⟩ := HK12.out _ hbb; have HB : Hid _ := hbb; clear hbb hb3)
                | (go_at_call 19; have hq := allows_p B x (wdV B (.slice pb B.sp.length cbp)) _ ⟨_, rfl, TxR.below HR12.out.2.1 HB.out⟩ (inc_alw HW.out.2.1) (by have := HW.out.2.2.2; omega); rw [hpB] at hq; (with_reducible refine Calls.mono hq ?_); clear hq; rintro e w3 ⟨rfl, hb3⟩; have hbb := HB.out.trans (hb3.mono HB.out.size); clear HB fa0 fa1 fa2 fa3 fb0 fb1 fb2 fb3 fx0 fx1 fx2 fx3 fy0 fy1 fy2 fy3 fn0 fn1 fn2 fn3 fq0 fq1 fq2 fq3; obtain ⟨fa0, fa1, fa2, fa3, fb0, fb1, fb2, fb3, fx0, fx1, fx2, fx3, fy0, fy1, fy2, fy3, fn0, fn1, fn2, fn3, fq0, fq1, fq2, fq3⟩ := HK12.out _ hbb; have HB : Hid _ := hbb; clear hbb hb3)))
                all_goals
                  go_wp2_with fail
                  go_ret
                  exact ⟨ret_bool (by simp), HU.out.trans (HB.out.mono HU.out.size)⟩
              case true =>
                refine wp_region_held_drew (S := (fun W => W.cell? ⟨w.heap.size, 0, none⟩ = some (.int .i64 A.how) ∧ W.cell? ⟨w.heap.size, 1, none⟩ = some (.string (sB A.nt)) ∧ W.cell? ⟨w.heap.size, 2, none⟩ = some (.slice pa A.sp.length cap) ∧ W.cell? ⟨w.heap.size, 3, none⟩ = some (.int .i64 A.pr) ∧ W.cell? ⟨w.heap.size + 1, 0, none⟩ = some (.int .i64 B.how) ∧ W.cell? ⟨w.heap.size + 1, 1, none⟩ = some (.string (sB B.nt)) ∧ W.cell? ⟨w.heap.size + 1, 2, none⟩ = some (.slice pb B.sp.length cbp) ∧ W.cell? ⟨w.heap.size + 1, 3, none⟩ = some (.int .i64 B.pr) ∧ W.cell? ⟨w5.heap.size, 0, none⟩ = some (.int .i64 X.how) ∧ W.cell? ⟨w5.heap.size, 1, none⟩ = some (.string (sB X.nt)) ∧ W.cell? ⟨w5.heap.size, 2, none⟩ = some (.slice x5 X.sp.length c5') ∧ W.cell? ⟨w5.heap.size, 3, none⟩ = some (.int .i64 X.pr) ∧ W.cell? ⟨T6, 0, none⟩ = some (.int .i64 X.how) ∧ W.cell? ⟨T6, 1, none⟩ = some (.string (sB X.nt)) ∧ W.cell? ⟨T6, 2, none⟩ = some (.slice x6 X.sp.length c6') ∧ W.cell? ⟨T6, 3, none⟩ = some (.int .i64 X.pr) ∧ W.cell? ⟨w7.heap.size, 0, none⟩ = some (.int .i64 N.how) ∧ W.cell? ⟨w7.heap.size, 1, none⟩ = some (.string (sB N.nt)) ∧ W.cell? ⟨w7.heap.size, 2, none⟩ = some (.slice x7 N.sp.length c7') ∧ W.cell? ⟨w7.heap.size, 3, none⟩ = some (.int .i64 N.pr) ∧ W.cell? ⟨T8, 0, none⟩ = some (.int .i64 N.how) ∧ W.cell? ⟨T8, 1, none⟩ = some (.string (sB N.nt)) ∧ W.cell? ⟨T8, 2, none⟩ = some (.slice x8 N.sp.length c8') ∧ W.cell? ⟨T8, 3, none⟩ = some (.int .i64 N.pr))) (by kernel_rfl) ?_ (fun hHeld => ?_)
                · first
                  | exact ⟨fa0, fa1, fa2, fa3, fb0, fb1, fb2, fb3, fx0, fx1, fx2, fx3, fy0, fy1, fy2, fy3, fn0, fn1, fn2, fn3, fq0, fq1, fq2, fq3⟩
                  | go_keep
                refine wpAnyH_take (i := 0) (v := ?vv0_17) (oi := { dst := some 149, op := Op.move (Operand.tmp 12), type := 4, pos := "law.go:80", after := #[], guard := none }) rfl (by kernel_rfl) (by kernel_rfl) (by kernel_rfl) (fun _ _ _ h => h) (Or.inl ⟨by rfl, ?hy0_17⟩) (by assumption) ?rr0_17
                case hy0_17 =>
                  intro w hSw
                  try dsimp only at hSw
                  go_simp
                  all_goals with_reducible rfl
                try simp only [Act.put, List.setIfInBounds_toArray, List.set_cons_zero, List.set_cons_succ]
                refine wpAnyH_take (i := 1) (v := ?vv1_17) (oi := { dst := some 150, op := Op.unOp UnOp.not 4 (Operand.tmp 149), type := 4, pos := "law.go:80", after := #[{ on := 0, ground := Ground.data }], guard := none }) rfl (by kernel_rfl) (by kernel_rfl) (by kernel_rfl) (fun _ _ _ h => h) (Or.inl ⟨by rfl, ?hy1_17⟩) (by assumption) ?rr1_17
                case hy1_17 =>
                  intro w hSw
                  try dsimp only at hSw
                  go_simp
                  all_goals with_reducible rfl
                try simp only [Act.put, List.setIfInBounds_toArray, List.set_cons_zero, List.set_cons_succ]
                refine wpAnyH_take (i := 2) (v := ?vv2_17) (oi := { dst := some 151, op := Op.move (Operand.tmp 150), type := 4, pos := "law.go:80", after := #[{ on := 1, ground := Ground.data }], guard := none }) rfl (by kernel_rfl) (by kernel_rfl) (by kernel_rfl) (fun _ _ _ h => h) (Or.inl ⟨by rfl, ?hy2_17⟩) (by assumption) ?rr2_17
                case hy2_17 =>
                  intro w hSw
                  try dsimp only at hSw
                  go_simp
                  all_goals with_reducible rfl
                try simp only [Act.put, List.setIfInBounds_toArray, List.set_cons_zero, List.set_cons_succ]
                refine wpAnyH_take (i := 3) (v := ?vv3_17) (oi := { dst := some 152, op := Op.load 25 (Operand.tmp 11), type := 25, pos := "law.go:80", after := #[{ on := 2, ground := Ground.guard }], guard := some (2, false) }) rfl (by kernel_rfl) (by kernel_rfl) (by kernel_rfl) (fun _ _ _ h => h) (Or.inl ⟨by rfl, ?hy3_17⟩) (by assumption) ?rr3_17
                case hy3_17 =>
                  intro w hSw
                  try dsimp only at hSw
                  go_simp
                  all_goals with_reducible rfl
                try simp only [Act.put, List.setIfInBounds_toArray, List.set_cons_zero, List.set_cons_succ]
                refine wpAnyH_take (i := 5) (v := ?vv5_17) (oi := { dst := some 154, op := Op.load 29 (Operand.tmp 13), type := 29, pos := "law.go:80", after := #[{ on := 2, ground := Ground.guard }], guard := some (2, false) }) rfl (by kernel_rfl) (by kernel_rfl) (by kernel_rfl) (fun _ _ _ h => h) (Or.inl ⟨by rfl, ?hy5_17⟩) (by assumption) ?rr5_17
                case hy5_17 =>
                  intro w hSw
                  try dsimp only at hSw
                  go_simp
                  all_goals with_reducible rfl
                try simp only [Act.put, List.setIfInBounds_toArray, List.set_cons_zero, List.set_cons_succ]
                refine wpAnyH_ready (rs := [4]) (by kernel_rfl) (by simp) ?_
                refine AllReadyH.cons (o := { dst := some 153, op := Op.call { callee := Callee.value (Operand.func 14), args := #[Operand.tmp 152], argTypes := #[25] }, type := 29, pos := "law.go:80", after := #[{ on := 3, ground := Ground.data }, { on := 2, ground := Ground.chain }, { on := 2, ground := Ground.guard }], guard := some (2, false) }) rfl (fun K hK => ?_) AllReadyH.nil
                go_simp
                (go_at_call 14; have hq := of_p N (wdV N (.slice x7 N.sp.length c7')) _ ⟨_, rfl, TxR.below HR12.out.2.2.2.2.1 HB.out⟩; (with_reducible refine Calls.mono hq ?_); clear hq; rintro e w4 ⟨v4, rfl, hw4, hb4⟩; obtain ⟨o4, d4, rfl⟩ := hw4.form; have HOX : Hid (WdV _ _ N) := hw4; clear hw4; have hbb := HB.out.trans (hb4.mono HB.out.size); clear HB fa0 fa1 fa2 fa3 fb0 fb1 fb2 fb3 fx0 fx1 fx2 fx3 fy0 fy1 fy2 fy3 fn0 fn1 fn2 fn3 fq0 fq1 fq2 fq3; obtain ⟨fa0, fa1, fa2, fa3, fb0, fb1, fb2, fb3, fx0, fx1, fx2, fx3, fy0, fy1, fy2, fy3, fn0, fn1, fn2, fn3, fq0, fq1, fq2, fq3⟩ := HK12.out _ hbb; have HB : Hid _ := hbb; clear hbb hb4)
                try go_wp2_with fail
                refine hK.out _ _ ?_ (fun hHeld => ?_)
                · first
                  | exact ⟨fa0, fa1, fa2, fa3, fb0, fb1, fb2, fb3, fx0, fx1, fx2, fx3, fy0, fy1, fy2, fy3, fn0, fn1, fn2, fn3, fq0, fq1, fq2, fq3⟩
                  | go_keep
                clear hK K
                try simp only [Act.put, List.setIfInBounds_toArray, List.set_cons_zero, List.set_cons_succ]
                refine wpAnyH_ready (rs := [6]) (by kernel_rfl) (by simp) ?_
                refine AllReadyH.cons (o := { dst := some 155, op := Op.call { callee := Callee.value (Operand.func 24), args := #[Operand.tmp 153, Operand.tmp 154], argTypes := #[29, 29] }, type := 4, pos := "law.go:80", after := #[{ on := 4, ground := Ground.data }, { on := 5, ground := Ground.data }, { on := 4, ground := Ground.chain }, { on := 2, ground := Ground.guard }], guard := some (2, false) }) rfl (fun K hK => ?_) AllReadyH.nil
                go_simp
                (go_at_call 24; have hq := rsame_p N N (wdV N (.slice o4 N.sp.length d4)) (wdV N (.slice x8 N.sp.length c8')) _ HOX.out ⟨_, rfl, TxR.below HR12.out.2.2.2.2.2 HB.out⟩ (by have := HNN.out.2.1; omega) (by have := HNN.out.2.1; omega); rw [hss] at hq; (with_reducible refine Calls.mono hq ?_); clear hq; rintro e w5 ⟨rfl, hb5⟩; have hbb := HB.out.trans (hb5.mono HB.out.size); clear HB fa0 fa1 fa2 fa3 fb0 fb1 fb2 fb3 fx0 fx1 fx2 fx3 fy0 fy1 fy2 fy3 fn0 fn1 fn2 fn3 fq0 fq1 fq2 fq3; obtain ⟨fa0, fa1, fa2, fa3, fb0, fb1, fb2, fb3, fx0, fx1, fx2, fx3, fy0, fy1, fy2, fy3, fn0, fn1, fn2, fn3, fq0, fq1, fq2, fq3⟩ := HK12.out _ hbb; have HB : Hid _ := hbb; clear hbb hb5)
                try go_wp2_with fail
                refine hK.out _ _ ?_ (fun hHeld => ?_)
                · first
                  | exact ⟨fa0, fa1, fa2, fa3, fb0, fb1, fb2, fb3, fx0, fx1, fx2, fx3, fy0, fy1, fy2, fy3, fn0, fn1, fn2, fn3, fq0, fq1, fq2, fq3⟩
                  | go_keep
                clear hK K
                try simp only [Act.put, List.setIfInBounds_toArray, List.set_cons_zero, List.set_cons_succ]
                refine wpAnyH_take (i := 7) (v := ?vv7_17) (oi := { dst := some 156, op := Op.move (Operand.tmp 155), type := 4, pos := "law.go:80", after := #[{ on := 6, ground := Ground.data }, { on := 6, ground := Ground.chain }, { on := 2, ground := Ground.guard }], guard := some (2, false) }) rfl (by kernel_rfl) (by kernel_rfl) (by kernel_rfl) (fun _ _ _ h => h) (Or.inl ⟨by rfl, ?hy7_17⟩) (by assumption) ?rr7_17
                case hy7_17 =>
                  intro w hSw
                  try dsimp only at hSw
                  go_simp
                  all_goals with_reducible rfl
                try simp only [Act.put, List.setIfInBounds_toArray, List.set_cons_zero, List.set_cons_succ]
                refine wpAnyH_take (i := 8) (v := ?vv8_17) (oi := { dst := some 157, op := Op.load 25 (Operand.tmp 11), type := 25, pos := "law.go:80", after := #[{ on := 7, ground := Ground.guard }], guard := some (7, true) }) rfl (by kernel_rfl) (by kernel_rfl) (by kernel_rfl) (fun _ _ _ h => h) (Or.inl ⟨by rfl, ?hy8_17⟩) (by assumption) ?rr8_17
                case hy8_17 =>
                  intro w hSw
                  try dsimp only at hSw
                  go_simp
                  all_goals with_reducible rfl
                try simp only [Act.put, List.setIfInBounds_toArray, List.set_cons_zero, List.set_cons_succ]
                refine wpAnyH_ready (rs := [9]) (by kernel_rfl) (by simp) ?_
                refine AllReadyH.cons (o := { dst := some 158, op := Op.call { callee := Callee.value (Operand.func 11), args := #[Operand.tmp 157], argTypes := #[25] }, type := 4, pos := "law.go:80", after := #[{ on := 8, ground := Ground.data }, { on := 7, ground := Ground.chain }, { on := 7, ground := Ground.guard }], guard := some (7, true) }) rfl (fun K hK => ?_) AllReadyH.nil
                go_simp
                (go_at_call 11; have hq := right_p N (wdV N (.slice x7 N.sp.length c7')) _ ⟨_, rfl, TxR.below HR12.out.2.2.2.2.1 HB.out⟩ (by have := HNN.out.2.1; unfold maxLen; omega); rw [hrg] at hq; (with_reducible refine Calls.mono hq ?_); clear hq; rintro e w6 ⟨rfl, hb6⟩; have hbb := HB.out.trans (hb6.mono HB.out.size); clear HB fa0 fa1 fa2 fa3 fb0 fb1 fb2 fb3 fx0 fx1 fx2 fx3 fy0 fy1 fy2 fy3 fn0 fn1 fn2 fn3 fq0 fq1 fq2 fq3; obtain ⟨fa0, fa1, fa2, fa3, fb0, fb1, fb2, fb3, fx0, fx1, fx2, fx3, fy0, fy1, fy2, fy3, fn0, fn1, fn2, fn3, fq0, fq1, fq2, fq3⟩ := HK12.out _ hbb; have HB : Hid _ := hbb; clear hbb hb6)
                try go_wp2_with fail
                refine hK.out _ _ ?_ (fun hHeld => ?_)
                · first
                  | exact ⟨fa0, fa1, fa2, fa3, fb0, fb1, fb2, fb3, fx0, fx1, fx2, fx3, fy0, fy1, fy2, fy3, fn0, fn1, fn2, fn3, fq0, fq1, fq2, fq3⟩
                  | go_keep
                clear hK K
                try simp only [Act.put, List.setIfInBounds_toArray, List.set_cons_zero, List.set_cons_succ]
                refine wpAnyH_take (i := 10) (v := ?vv10_17) (oi := { dst := some 159, op := Op.pick (Operand.tmp 156) (Operand.tmp 158) (Operand.const (Value.bool false)), type := 4, pos := "law.go:80", after := #[{ on := 7, ground := Ground.data }, { on := 9, ground := Ground.data }, { on := 2, ground := Ground.guard }], guard := some (2, false) }) rfl (by kernel_rfl) (by kernel_rfl) (by kernel_rfl) (fun _ _ _ h => h) (Or.inl ⟨by rfl, ?hy10_17⟩) (by assumption) ?rr10_17
                case hy10_17 =>
                  intro w hSw
                  try dsimp only at hSw
                  go_simp
                  all_goals with_reducible rfl
                try simp only [Act.put, List.setIfInBounds_toArray, List.set_cons_zero, List.set_cons_succ]
                refine wpAnyH_take (i := 11) (v := ?vv11_17) (oi := { dst := some 160, op := Op.move (Operand.tmp 159), type := 4, pos := "law.go:80", after := #[{ on := 10, ground := Ground.data }, { on := 9, ground := Ground.chain }, { on := 2, ground := Ground.guard }], guard := some (2, false) }) rfl (by kernel_rfl) (by kernel_rfl) (by kernel_rfl) (fun _ _ _ h => h) (Or.inl ⟨by rfl, ?hy11_17⟩) (by assumption) ?rr11_17
                case hy11_17 =>
                  intro w hSw
                  try dsimp only at hSw
                  go_simp
                  all_goals with_reducible rfl
                try simp only [Act.put, List.setIfInBounds_toArray, List.set_cons_zero, List.set_cons_succ]
                refine wpAnyH_take (i := 12) (v := ?vv12_17) (oi := { dst := some 161, op := Op.load 25 (Operand.tmp 11), type := 25, pos := "law.go:80", after := #[{ on := 11, ground := Ground.guard }], guard := some (11, true) }) rfl (by kernel_rfl) (by kernel_rfl) (by kernel_rfl) (fun _ _ _ h => h) (Or.inl ⟨by rfl, ?hy12_17⟩) (by assumption) ?rr12_17
                case hy12_17 =>
                  intro w hSw
                  try dsimp only at hSw
                  go_simp
                  all_goals with_reducible rfl
                try simp only [Act.put, List.setIfInBounds_toArray, List.set_cons_zero, List.set_cons_succ]
                refine wpAnyH_take (i := 13) (v := ?vv13_17) (oi := { dst := some 162, op := Op.move (Operand.tmp 2), type := 9, pos := "law.go:80", after := #[{ on := 11, ground := Ground.guard }], guard := some (11, true) }) rfl (by kernel_rfl) (by kernel_rfl) (by kernel_rfl) (fun _ _ _ h => h) (Or.inl ⟨by rfl, ?hy13_17⟩) (by assumption) ?rr13_17
                case hy13_17 =>
                  intro w hSw
                  try dsimp only at hSw
                  go_simp
                  all_goals with_reducible rfl
                try simp only [Act.put, List.setIfInBounds_toArray, List.set_cons_zero, List.set_cons_succ]
                refine wpAnyH_take (i := 15) (v := ?vv15_17) (oi := { dst := some 164, op := Op.load 25 (Operand.tmp 3), type := 25, pos := "law.go:80", after := #[{ on := 11, ground := Ground.guard }], guard := some (11, true) }) rfl (by kernel_rfl) (by kernel_rfl) (by kernel_rfl) (fun _ _ _ h => h) (Or.inl ⟨by rfl, ?hy15_17⟩) (by assumption) ?rr15_17
                case hy15_17 =>
                  intro w hSw
                  try dsimp only at hSw
                  go_simp
                  all_goals with_reducible rfl
                try simp only [Act.put, List.setIfInBounds_toArray, List.set_cons_zero, List.set_cons_succ]
                refine wpAnyH_take (i := 16) (v := ?vv16_17) (oi := { dst := some 165, op := Op.move (Operand.tmp 2), type := 9, pos := "law.go:80", after := #[{ on := 11, ground := Ground.guard }], guard := some (11, true) }) rfl (by kernel_rfl) (by kernel_rfl) (by kernel_rfl) (fun _ _ _ h => h) (Or.inl ⟨by rfl, ?hy16_17⟩) (by assumption) ?rr16_17
                case hy16_17 =>
                  intro w hSw
                  try dsimp only at hSw
                  go_simp
                  all_goals with_reducible rfl
                try simp only [Act.put, List.setIfInBounds_toArray, List.set_cons_zero, List.set_cons_succ]
                refine wpAnyH_ready (rs := [14]) (by kernel_rfl) (by simp) ?_
                refine AllReadyH.cons (o := { dst := some 163, op := Op.call { callee := Callee.value (Operand.func 19), args := #[Operand.tmp 161, Operand.tmp 162], argTypes := #[25, 9] }, type := 4, pos := "law.go:80", after := #[{ on := 12, ground := Ground.data }, { on := 13, ground := Ground.data }, { on := 11, ground := Ground.chain }, { on := 11, ground := Ground.guard }], guard := some (11, true) }) rfl (fun K hK => ?_) AllReadyH.nil
                go_simp
                (go_at_call 19; have hq := allows_p N x (wdV N (.slice x7 N.sp.length c7')) _ ⟨_, rfl, TxR.below HR12.out.2.2.2.2.1 HB.out⟩ (inc_alw hwn) (by have := HNN.out.2.1; omega); rw [hmx] at hq; (with_reducible refine Calls.mono hq ?_); clear hq; rintro e w3 ⟨rfl, hb3⟩; have hbb := HB.out.trans (hb3.mono HB.out.size); clear HB fa0 fa1 fa2 fa3 fb0 fb1 fb2 fb3 fx0 fx1 fx2 fx3 fy0 fy1 fy2 fy3 fn0 fn1 fn2 fn3 fq0 fq1 fq2 fq3; obtain ⟨fa0, fa1, fa2, fa3, fb0, fb1, fb2, fb3, fx0, fx1, fx2, fx3, fy0, fy1, fy2, fy3, fn0, fn1, fn2, fn3, fq0, fq1, fq2, fq3⟩ := HK12.out _ hbb; have HB : Hid _ := hbb; clear hbb hb3)
                try go_wp2_with fail
                refine hK.out _ _ ?_ (fun hHeld => ?_)
                · first
                  | exact ⟨fa0, fa1, fa2, fa3, fb0, fb1, fb2, fb3, fx0, fx1, fx2, fx3, fy0, fy1, fy2, fy3, fn0, fn1, fn2, fn3, fq0, fq1, fq2, fq3⟩
                  | go_keep
                clear hK K
                try simp only [Act.put, List.setIfInBounds_toArray, List.set_cons_zero, List.set_cons_succ]
                refine wpAnyH_ready (rs := [17]) (by kernel_rfl) (by simp) ?_
                refine AllReadyH.cons (o := { dst := some 166, op := Op.call { callee := Callee.value (Operand.func 19), args := #[Operand.tmp 164, Operand.tmp 165], argTypes := #[25, 9] }, type := 4, pos := "law.go:80", after := #[{ on := 15, ground := Ground.data }, { on := 16, ground := Ground.data }, { on := 14, ground := Ground.chain }, { on := 11, ground := Ground.guard }], guard := some (11, true) }) rfl (fun K hK => ?_) AllReadyH.nil
                go_simp
                (go_at_call 19; have hq := allows_p A x (wdV A (.slice pa A.sp.length cap)) _ ⟨_, rfl, TxR.below HR12.out.1 HB.out⟩ (inc_alw HW.out.1) (by have := HW.out.2.2.1; omega); rw [hpA] at hq; (with_reducible refine Calls.mono hq ?_); clear hq; rintro e w3 ⟨rfl, hb3⟩; have hbb := HB.out.trans (hb3.mono HB.out.size); clear HB fa0 fa1 fa2 fa3 fb0 fb1 fb2 fb3 fx0 fx1 fx2 fx3 fy0 fy1 fy2 fy3 fn0 fn1 fn2 fn3 fq0 fq1 fq2 fq3; obtain ⟨fa0, fa1, fa2, fa3, fb0, fb1, fb2, fb3, fx0, fx1, fx2, fx3, fy0, fy1, fy2, fy3, fn0, fn1, fn2, fn3, fq0, fq1, fq2, fq3⟩ := HK12.out _ hbb; have HB : Hid _ := hbb; clear hbb hb3)
                try go_wp2_with fail
                refine hK.out _ _ ?_ (fun hHeld => ?_)
                · first
                  | exact ⟨fa0, fa1, fa2, fa3, fb0, fb1, fb2, fb3, fx0, fx1, fx2, fx3, fy0, fy1, fy2, fy3, fn0, fn1, fn2, fn3, fq0, fq1, fq2, fq3⟩
                  | go_keep
                clear hK K
                try simp only [Act.put, List.setIfInBounds_toArray, List.set_cons_zero, List.set_cons_succ]
                refine wpAnyH_take (i := 18) (v := ?vv18_17) (oi := { dst := some 167, op := Op.move (Operand.tmp 166), type := 4, pos := "law.go:80", after := #[{ on := 17, ground := Ground.data }, { on := 17, ground := Ground.chain }, { on := 11, ground := Ground.guard }], guard := some (11, true) }) rfl (by kernel_rfl) (by kernel_rfl) (by kernel_rfl) (fun _ _ _ h => h) (Or.inl ⟨by rfl, ?hy18_17⟩) (by assumption) ?rr18_17
                case hy18_17 =>
                  intro w hSw
                  try dsimp only at hSw
                  go_simp
                  all_goals with_reducible rfl
                try simp only [Act.put, List.setIfInBounds_toArray, List.set_cons_zero, List.set_cons_succ]
                refine wpAnyH_take (i := 19) (oi := { dst := some 168, op := Op.load 25 (Operand.tmp 4), type := 25, pos := "law.go:80", after := #[{ on := 18, ground := Ground.guard }], guard := some (18, false) }) (v := undef) rfl (by kernel_rfl) (by kernel_rfl) (by kernel_rfl) (fun _ _ _ h => h) (Or.inr ⟨by rfl, rfl⟩) (by assumption) ?_
                try simp only [Act.put, List.setIfInBounds_toArray, List.set_cons_zero, List.set_cons_succ]
                refine wpAnyH_take (i := 20) (oi := { dst := some 169, op := Op.move (Operand.tmp 2), type := 9, pos := "law.go:80", after := #[{ on := 18, ground := Ground.guard }], guard := some (18, false) }) (v := undef) rfl (by kernel_rfl) (by kernel_rfl) (by kernel_rfl) (fun _ _ _ h => h) (Or.inr ⟨by rfl, rfl⟩) (by assumption) ?_
                try simp only [Act.put, List.setIfInBounds_toArray, List.set_cons_zero, List.set_cons_succ]
                refine wpAnyH_take (i := 21) (oi := { dst := some 170, op := Op.call { callee := Callee.value (Operand.func 19), args := #[Operand.tmp 168, Operand.tmp 169], argTypes := #[25, 9] }, type := 4, pos := "law.go:80", after := #[{ on := 19, ground := Ground.data }, { on := 20, ground := Ground.data }, { on := 18, ground := Ground.chain }, { on := 18, ground := Ground.guard }], guard := some (18, false) }) (v := undef) rfl (by kernel_rfl) (by kernel_rfl) (by kernel_rfl) (fun _ _ _ h => h) (Or.inr ⟨by rfl, rfl⟩) (by assumption) ?_
                try simp only [Act.put, List.setIfInBounds_toArray, List.set_cons_zero, List.set_cons_succ]
                refine wpAnyH_take (i := 22) (v := ?vv22_17) (oi := { dst := some 171, op := Op.pick (Operand.tmp 167) (Operand.const (Value.bool true)) (Operand.tmp 170), type := 4, pos := "law.go:80", after := #[{ on := 18, ground := Ground.data }, { on := 21, ground := Ground.data }, { on := 11, ground := Ground.guard }], guard := some (11, true) }) rfl (by kernel_rfl) (by kernel_rfl) (by kernel_rfl) (fun _ _ _ h => h) (Or.inl ⟨by rfl, ?hy22_17⟩) (by assumption) ?rr22_17
                case hy22_17 =>
                  intro w hSw
                  try dsimp only at hSw
                  go_simp
                  all_goals with_reducible rfl
                try simp only [Act.put, List.setIfInBounds_toArray, List.set_cons_zero, List.set_cons_succ]
                refine wpAnyH_take (i := 23) (v := ?vv23_17) (oi := { dst := some 172, op := Op.binOp BinOp.eql 4 (Operand.tmp 163) (Operand.tmp 171) 4, type := 4, pos := "law.go:80", after := #[{ on := 14, ground := Ground.data }, { on := 22, ground := Ground.data }, { on := 11, ground := Ground.guard }], guard := some (11, true) }) rfl (by kernel_rfl) (by kernel_rfl) (by kernel_rfl) (fun _ _ _ h => h) (Or.inl ⟨by rfl, ?hy23_17⟩) (by assumption) ?rr23_17
                case hy23_17 =>
                  intro w hSw
                  try dsimp only at hSw
                  go_simp
                  all_goals with_reducible rfl
                try simp only [Act.put, List.setIfInBounds_toArray, List.set_cons_zero, List.set_cons_succ]
                refine wpAnyH_take (i := 24) (v := ?vv24_17) (oi := { dst := some 173, op := Op.pick (Operand.tmp 160) (Operand.tmp 172) (Operand.const (Value.bool false)), type := 4, pos := "law.go:80", after := #[{ on := 11, ground := Ground.data }, { on := 23, ground := Ground.data }, { on := 2, ground := Ground.guard }], guard := some (2, false) }) rfl (by kernel_rfl) (by kernel_rfl) (by kernel_rfl) (fun _ _ _ h => h) (Or.inl ⟨by rfl, ?hy24_17⟩) (by assumption) ?rr24_17
                case hy24_17 =>
                  intro w hSw
                  try dsimp only at hSw
                  go_simp
                  all_goals with_reducible rfl
                try simp only [Act.put, List.setIfInBounds_toArray, List.set_cons_zero, List.set_cons_succ]
                refine wpAnyH_take (i := 25) (v := ?vv25_17) (oi := { dst := some 174, op := Op.pick (Operand.tmp 151) (Operand.const (Value.bool true)) (Operand.tmp 173), type := 4, pos := "law.go:80", after := #[{ on := 2, ground := Ground.data }, { on := 24, ground := Ground.data }], guard := none }) rfl (by kernel_rfl) (by kernel_rfl) (by kernel_rfl) (fun _ _ _ h => h) (Or.inl ⟨by rfl, ?hy25_17⟩) (by assumption) ?rr25_17
                case hy25_17 =>
                  intro w hSw
                  try dsimp only at hSw
                  go_simp
                  all_goals with_reducible rfl
                try simp only [Act.put, List.setIfInBounds_toArray, List.set_cons_zero, List.set_cons_succ]
                refine wpAnyH_take (i := 26) (v := ?vv26_17) (oi := { dst := some 6, op := Op.assign (Operand.tmp 174), type := 4, pos := "law.go:80", after := #[{ on := 25, ground := Ground.data }, { on := 21, ground := Ground.chain }, { on := 0, ground := Ground.phase }, { on := 1, ground := Ground.phase }, { on := 2, ground := Ground.phase }, { on := 3, ground := Ground.phase }, { on := 4, ground := Ground.phase }, { on := 5, ground := Ground.phase }, { on := 6, ground := Ground.phase }, { on := 7, ground := Ground.phase }, { on := 8, ground := Ground.phase }, { on := 9, ground := Ground.phase }, { on := 10, ground := Ground.phase }, { on := 11, ground := Ground.phase }, { on := 12, ground := Ground.phase }, { on := 13, ground := Ground.phase }, { on := 14, ground := Ground.phase }, { on := 15, ground := Ground.phase }, { on := 16, ground := Ground.phase }, { on := 17, ground := Ground.phase }, { on := 18, ground := Ground.phase }, { on := 19, ground := Ground.phase }, { on := 20, ground := Ground.phase }, { on := 21, ground := Ground.phase }, { on := 22, ground := Ground.phase }, { on := 23, ground := Ground.phase }, { on := 24, ground := Ground.phase }, { on := 25, ground := Ground.phase }], guard := none }) rfl (by kernel_rfl) (by kernel_rfl) (by kernel_rfl) (fun _ _ _ h => h) (Or.inl ⟨by rfl, ?hy26_17⟩) (by assumption) ?rr26_17
                case hy26_17 =>
                  intro w hSw
                  try dsimp only at hSw
                  go_simp
                  all_goals with_reducible rfl
                try simp only [Act.put, List.setIfInBounds_toArray, List.set_cons_zero, List.set_cons_succ]
                refine wpAnyH_done (by kernel_rfl) ?_ _
                go_wp2_with fail
                go_ret
                exact ⟨ret_bool (by simp), HU.out.trans (HB.out.mono HU.out.size)⟩



end Go.Proofs.YtknfipcegmajaaaDoor
