/- Joined: HR6, HR7, HR8, HR9, HR10, HR11, HR12, HW6, HS6. -/
import Derived.Test.YtknfipcegmajaaaDoorHJ17
import Derived.Deep.RegionHeldLaw
import Derived.Laws.CopyOwn
import Derived.Test.YtknfipcegmajaaaDoorHJ11
namespace Go.Proofs.YtknfipcegmajaaaDoor
open Go.RowKit
set_option linter.unusedVariables false
set_option linter.unusedSimpArgs false

theorem step_app {P : Program} (w : World) {ops : Array Oper} {o : Oper} {a : Act} {K : Act → World → Prop} {Q : Exit → Act → World → Prop} {E : Prop} (hgd : o.guard = none) (s x : Operand) (t : TypeId)
    (ho : o.op = .call { callee := .builtin .append, args := #[s, x], argTypes := #[t, t] })
    (base : Nat) (e : TypeId) (i : TypeInfo) (z : Value) (size bytes : Nat) (ht : P.underlying t = some (.slice e)) (hi : P.info? e = some i) (hz : i.zero = some z)
    (hsize : i.size = size) (hby : i.bytes = bytes) (hzs : z.cells.size = size) (hsz : 0 < size)
    (v : Value) (n : Nat) (xs : List Value) (hs : a.eval s = v) (hown : w.ownsRow base e size v n xs)
    (ad : Option Addr) (m c : Nat) (news : List Value) (hx : a.eval x = .slice ad m c) (hl : news.length = m * size) (hsrc : m = 0 ∨ ∃ ad', ad = some ad' ∧ ∀ j u, news[j]? = some u → w.cell? (ad'.add j) = some u) (h1 : ∀ u ∈ news, u.oneCell' = true)
    (h63 : n + m ≤ maxLen) (hbytes : (n + m) * bytes ≤ 140737488355328) (hbase : base ≤ w.heap.size)
    (h : ∀ v' w', w'.ownsRow base e size v' (n + m) (xs ++ news) → w.grownBy w' v.ownBlock → (v'.ownBlock = v.ownBlock ∨ v'.ownBlock = some w.heap.size) → K (a.put o.dst v') w') : if Region.wanted o (yielded ops a.tmps) = true then Oper.wp P o a w K Q else E := by
  have hw : Region.wanted o (yielded ops a.tmps) = true := by simp [Region.wanted, hgd]
  rw [if_pos hw]
  exact wp_app w s x t ho base e i z size bytes ht hi hz hsize hby hzs hsz v n xs hs hown ad m c news hx hl hsrc h1 h63 hbytes hbase h
theorem filt_snoc (l : List Tx) (p : Tx → Bool) (k : Nat) (h : k < l.length) : (l.take (k + 1)).filter p = (l.take k).filter p ++ (if p l[k] = true then [l[k]] else []) := by
  rw [take_snoc h, List.filter_append]
  congr 1
  by_cases g : p l[k] = true <;> simp [g]
/-- The loop's variable, its row. -/
structure FlI (U : World) (X : Nat) (p : Int) (l : List Tx) (v : Value) (W : World) : Prop where
  blk : W.heap[X]? = some (.cells #[.int .i64 3, .string ⟨#[]⟩, v, .int .i64 p] 29 (0, 0))
  own : OwS W U.heap.size v l
  fro : Fro (fun k => k = X) U W
theorem FlI.below {U W W' : World} {X : Nat} {p : Int} {l : List Tx} {v : Value} (h : FlI U X p l v W) (hb : Below W.heap.size W W') : FlI U X p l v W' :=
  ⟨(hb.block _ (lt_of h.blk)).trans h.blk, row_below h.own hb, h.fro.trans (Fro.below hb)⟩
theorem FlI.mid {U W W1 W' : World} {X : Nat} {p : Int} {l : List Tx} {v : Value} (h : FlI U X p l v W) (hX : X < U.heap.size) (hb : Below W.heap.size W W1) (hg : W1.grownBy W' v.ownBlock) : W'.heap[X]? = some (.cells #[.int .i64 3, .string ⟨#[]⟩, v, .int .i64 p] 29 (0, 0)) := by
  have hne : v.ownBlock ≠ some X := fun e => by have := (row_base h.own X e).1; omega
  exact (Fro.grown hg (fun k q => q) (O := fun k => v.ownBlock = some k)).at (h.below hb).blk hne
/-- One text more. -/
theorem FlI.put {U W W1 W' : World} {X : Nat} {p : Int} {l : List Tx} {v v' : Value} {x : Tx} (h : FlI U X p l v W) (hX : X < U.heap.size) (hb : Below W.heap.size W W1) (ho : W'.ownsRow U.heap.size 9 1 v' (l.length + 1) (tc l ++ [.string (sB x)])) (hg : W1.grownBy W' v.ownBlock) :
    FlI U X p (l ++ [x]) v' (W'.setCell ⟨X, 2, none⟩ v') := by
  have h1 := h.below hb
  have hne : v.ownBlock ≠ some X := fun e => by have := (row_base h.own X e).1; omega
  have hf : Fro (fun k => v.ownBlock = some k) W1 W' := Fro.grown hg fun k q => q
  have hX' := hf.at h1.blk hne
  have hf2 : Fro (fun k => k = X) U W' := h1.fro.trans' hf fun i hi q => by have := (row_base h.own i q).1; omega
  refine ⟨bset (i := 2) hX' v', ?_, hf2.set (.inl rfl) _⟩
  have hv := row_base ho
  have hr : (W'.setCell ⟨X, 2, none⟩ v').ownsRow U.heap.size 9 1 v' (l.length + 1) (tc l ++ [.string (sB x)]) := row_fro ho ((Fro.refl (fun k => k = X) W').set (.inl rfl) _) fun k hk e => by have := (hv k hk).1; omega
  unfold OwS
  rw [tc_app, List.length_append]
  exact hr
theorem w4_facts (w : World) (a b c d : Obj) : (((w.alloc a).alloc b).alloc c).alloc d = (((w.alloc a).alloc b).alloc c).alloc d ∧ ((((w.alloc a).alloc b).alloc c).alloc d).heap[w.heap.size]? = some a ∧ ((((w.alloc a).alloc b).alloc c).alloc d).heap[w.heap.size + 1]? = some b ∧ ((((w.alloc a).alloc b).alloc c).alloc d).heap[w.heap.size + 1 + 1]? = some c ∧ ((((w.alloc a).alloc b).alloc c).alloc d).heap[w.heap.size + 1 + 1 + 1]? = some d ∧ Below w.heap.size w ((((w.alloc a).alloc b).alloc c).alloc d) :=
  ⟨rfl, nw_below (nw_below (nw_below (nw_heap _ _))), nw_below (nw_below (nw_at (sza _ _) _)), nw_below (nw_at (sza2 _ _ _) _), nw_at (by rw [sza, sza, sza]) _, (bel3 w a b c).alloc (by rw [sza, sza, sza]; omega) _⟩
/-- The result's cells written behind a call: its text is the empty one, or its row is. -/
theorem set4_resR {W : World} {X : Nat} {v : Value} {l : List Tx} (x y z u : Value) (h : TxR W v l) (hX : W.heap[X]? = some (.cells #[.int .i64 0, .string ⟨#[]⟩, .slice none 0 0, .int .i64 0] 29 (0, 0))) (hy : l = [] ∨ y = .string ⟨#[]⟩) : TxR ((((W.setCell ⟨X, 0, none⟩ x).setCell ⟨X, 1, none⟩ y).setCell ⟨X, 2, none⟩ z).setCell ⟨X, 3, none⟩ u) v l := by
  obtain ⟨a, cap, rfl, hc, h⟩ := h
  refine ⟨a, cap, rfl, hc, ?_⟩
  by_cases h0 : l = []
  · exact .inl h0
  · rcases h with h | ⟨g, off, rfl, hg, h⟩
    · exact absurd h h0
    · refine .inr ⟨g, off, rfl, by simpa [World.setCell] using hg, fun j hj => ?_⟩
      by_cases hne : g = X
      · subst hne
        have hy' : y = .string ⟨#[]⟩ := hy.resolve_left h0
        have h1 := h j hj
        have h2 := set4_heap x y z u hX
        obtain ⟨k, hk⟩ : ∃ k, off + j = k := ⟨_, rfl⟩
        rw [hk] at h1 ⊢
        simp only [World.cell?, hX] at h1
        simp only [World.cell?, h2]
        rcases (by omega : k = 0 ∨ k = 1 ∨ k = 2 ∨ k = 3 ∨ 4 ≤ k) with rfl | rfl | rfl | rfl | hk4
        · simp at h1
        · rw [← h1, hy']; rfl
        · simp at h1
        · simp at h1
        · have : (#[.int .i64 0, .string ⟨#[]⟩, .slice none 0 0, .int .i64 0] : Array Value)[k]? = none := Array.getElem?_eq_none (by simpa using hk4)
          rw [this] at h1
          simp at h1
      · have hh : ((((W.setCell ⟨X, 0, none⟩ x).setCell ⟨X, 1, none⟩ y).setCell ⟨X, 2, none⟩ z).setCell ⟨X, 3, none⟩ u).heap[g]? = W.heap[g]? := by
          rw [Below.heap_setCell _ _ _ _ (by exact hne), Below.heap_setCell _ _ _ _ (by exact hne), Below.heap_setCell _ _ _ _ (by exact hne), Below.heap_setCell _ _ _ _ (by exact hne)]
        rw [cell_of hh (h j hj)]
set_option maxRecDepth 8000 in
set_option maxHeartbeats 4000000 in
theorem filter_p (A B : Wd) (p : Int) (va vb : Value) (w : World) (ha : WdV w va A) (hb : WdV w vb B) (la : A.sp.length < 1000) (lb : B.sp.length < 1000) :
    Calls Tryd.prog 35 #[va, vb, .int .i64 p] w fun e w' => ∃ v', e = .returned v' ∧ WdV w' v' ⟨3, [], A.sp.filter (rallows B), p⟩ ∧ Below w.heap.size w w' := by
  obtain ⟨i0, hi0, hz0, hz1, hz2⟩ := info_sp
  obtain ⟨sa, rfl, ha⟩ := ha
  obtain ⟨pa, ca, rfl, ha2⟩ := ha.len
  obtain ⟨sb, rfl, hb⟩ := hb
  obtain ⟨pb, cb, rfl, hb2⟩ := hb.len
  obtain ⟨_, hxa, hxb, hxr, hxv, hb0⟩ := w4_facts w (bxR A (.slice pa A.sp.length ca)) (bxR B (.slice pb B.sp.length cb)) (bxR Wd.zero (.slice none 0 0)) (.cells #[.int .i64 3, .string ⟨#[]⟩, .slice none 0 0, .int .i64 p] 29)
  have HX : Hid _ := And.intro hxa (And.intro hxb (And.intro hxr hxv))
  have HR : Hid _ := And.intro ha (And.intro hb hb0)
  clear hxa hxb hxr hxv hb0 ha hb
  go_enter Tryd.func35, Tryd.ntmps35
  go_wp2_with fail
  have eU : ((((w.alloc (bxR A (.slice pa A.sp.length ca))).alloc (bxR B (.slice pb B.sp.length cb))).alloc (bxR Wd.zero (.slice none 0 0))).alloc (.cells #[.int .i64 3, .string ⟨#[]⟩, .slice none 0 0, .int .i64 p] 29)) = ((((w.alloc (.cells #[.int .i64 A.how, .string (sB A.nt), .slice pa A.sp.length ca, .int .i64 A.pr] 29)).alloc (.cells #[.int .i64 B.how, .string (sB B.nt), .slice pb B.sp.length cb, .int .i64 B.pr] 29)).alloc (.cells #[.int .i64 0, .string ⟨#[]⟩, .slice none 0 0, .int .i64 0] 29)).alloc (.cells #[.int .i64 3, .string ⟨#[]⟩, .slice none 0 0, .int .i64 p] 29)) := rfl
  rw [eU] at HX HR
  clear eU
  generalize ((((w.alloc (.cells #[.int .i64 A.how, .string (sB A.nt), .slice pa A.sp.length ca, .int .i64 A.pr] 29)).alloc (.cells #[.int .i64 B.how, .string (sB B.nt), .slice pb B.sp.length cb, .int .i64 B.pr] 29)).alloc (.cells #[.int .i64 0, .string ⟨#[]⟩, .slice none 0 0, .int .i64 0] 29)).alloc (.cells #[.int .i64 3, .string ⟨#[]⟩, .slice none 0 0, .int .i64 p] 29)) = U at HX HR ⊢
  have HK : Hid (∀ W, Fro (fun k => k = w.heap.size + 1 + 1 + 1) U W → (W.cell? ⟨w.heap.size, 2, none⟩ = some (.slice pa A.sp.length ca) ∧ W.cell? ⟨w.heap.size + 1, 0, none⟩ = some (.int .i64 B.how) ∧ W.cell? ⟨w.heap.size + 1, 1, none⟩ = some (.string (sB B.nt)) ∧ W.cell? ⟨w.heap.size + 1, 2, none⟩ = some (.slice pb B.sp.length cb) ∧ W.cell? ⟨w.heap.size + 1, 3, none⟩ = some (.int .i64 B.pr)) ∧ W.heap[w.heap.size + 1 + 1]? = some (.cells #[.int .i64 0, .string ⟨#[]⟩, .slice none 0 0, .int .i64 0] 29 (0, 0)) ∧ Below w.heap.size w W) := fun W hW => by
    have h1 := hW.at HX.out.1 (by omega)
    have h2 := hW.at HX.out.2.1 (by omega)
    have h3 := hW.at HX.out.2.2.1 (by omega)
    exact ⟨⟨cell_blk h1 rfl, cell_blk h2 rfl, cell_blk h2 rfl, cell_blk h2 rfl, cell_blk h2 rfl⟩, h3, HR.out.2.2.trans (hW.toBelow HR.out.2.2.size (fun i hi => by omega))⟩
  have hI0 : FlI U (w.heap.size + 1 + 1 + 1) p [] (.slice none 0 0) U := ⟨HX.out.2.2.2, OwS.nil _ _, Fro.refl _ _⟩
  have HI0 : Hid _ := hI0
  clear hI0
  have hXl := lt_of HX.out.2.2.2
  have HXl : Hid _ := hXl
  clear hXl
  generalize hnn : A.sp.length = n at la ha2 HX HR HK ⊢
  have Hn : Hid (A.sp.length = n) := hnn
  clear hnn
  go_loopg [8] n (fun g v8 wr => ∃ (k : Nat) (v : Value), k + g = n ∧ v8 = .int .i64 (k : Int) ∧ FlI U (w.heap.size + 1 + 1 + 1) p ((A.sp.take k).filter (rallows B)) v wr)
  case atStart => exact ⟨0, _, by omega, rfl, HI0.out⟩
  case round =>
    obtain ⟨k, v, hk, rfl, hI⟩ := hrel
    obtain ⟨ya, yc, rfl⟩ := row_form hI.own
    obtain ⟨⟨a2, b0, b1, b2, b3⟩, _⟩ := HK.out wr hI.fro
    have hfl : ((A.sp.take k).filter (rallows B)).length ≤ n := by
      refine Nat.le_trans (List.length_filter_le _ _) ?_
      rw [List.length_take]; omega
    have HI : Hid _ := hI
    clear hI
    by_cases hlt : k < n
    · obtain ⟨gg, rfl⟩ : ∃ gg, gk = gg + 1 := ⟨gk - 1, by omega⟩
      have hkl : k < A.sp.length := by rw [Hn.out]; exact hlt
      obtain ⟨g0, off, rfl, hg0, hat⟩ := tx_at HR.out.1 (by omega)
      have HE : Hid (∀ W, Below w.heap.size w W → W.cell? ⟨g0, off + k, none⟩ = some (.string (sB (A.sp[k]'hkl)))) := fun W hW => (hW.cell (p := ⟨g0, off + k, none⟩) hg0).trans (hat k hkl)
      have hsn := filt_snoc A.sp (rallows B) k hkl
      obtain ⟨x, hx⟩ : ∃ x, A.sp[k] = x := ⟨_, rfl⟩
      rw [hx] at HE hsn
      have e0 := HE.out wr (HK.out wr HI.out.fro).2.2
      obtain ⟨P, hP⟩ : ∃ P, (A.sp.take k).filter (rallows B) = P := ⟨_, rfl⟩
      rw [hP] at HI hsn hfl
      have HS : Hid _ := hsn
      clear hat hx hsn hP
      have HB : Hid (Below wr.heap.size wr wr.drew) := (Below.refl _ _).drew
      have HW0 : Hid (∀ W, Below wr.heap.size wr W → Fro (fun k => k = w.heap.size + 1 + 1 + 1) U W) := fun W hW => HI.out.fro.trans (Fro.below hW)
      go_upto_region 5 with fail
      go_region_held3 (fun W => W.cell? ⟨w.heap.size, 2, none⟩ = some (.slice (some ⟨g0, off, none⟩) n ca) ∧ W.cell? ⟨w.heap.size + 1, 0, none⟩ = some (.int .i64 B.how) ∧ W.cell? ⟨w.heap.size + 1, 1, none⟩ = some (.string (sB B.nt)) ∧ W.cell? ⟨w.heap.size + 1, 2, none⟩ = some (.slice pb B.sp.length cb) ∧ W.cell? ⟨w.heap.size + 1, 3, none⟩ = some (.int .i64 B.pr) ∧ W.cell? ⟨g0, off + k, none⟩ = some (.string (sB x))) (first | exact ⟨a2, b0, b1, b2, b3, e0⟩ | go_keep) (first
        | (go_at_call 20; have hq := rallows_p B x (wdV B (.slice pb B.sp.length cb)) _ ⟨_, rfl, HR.out.2.1.below (HK.out _ (HW0.out _ HB.out)).2.2⟩ (by omega); (with_reducible refine Calls.mono hq ?_); clear hq; rintro e w4 ⟨rfl, hb4⟩; have hbb := HB.out.trans (hb4.mono HB.out.size); clear HB a2 b0 b1 b2 b3 e0; obtain ⟨⟨a2, b0, b1, b2, b3⟩, _⟩ := HK.out _ (HW0.out _ hbb); have e0 := HE.out _ (HK.out _ (HW0.out _ hbb)).2.2; have HB : Hid _ := hbb; clear hbb hb4))
      all_goals
        have hI4 := HI.out.below HB.out
        clear HI HW0 HB
        have HI : Hid _ := hI4
        obtain ⟨⟨y0, y1, y2, y3⟩, f0, f1, f2, f3⟩ := blk4 hI4.blk
        clear hI4
        by_cases hr : rallows B x = true
        · rw [hr]
          have hs := HS.out
          rw [if_pos hr] at hs
          have HS' : Hid _ := hs
          clear hs HS
          have hal : ∀ o, Below w4.heap.size w4 ((w4.alloc o).drew) := fun o => (bel1 _ _).drew
          have hal2 : ∀ o, Below w4.heap.size w4 (w4.alloc o) := fun o => bel1 _ _
          have y2d : ∀ o, (w4.alloc o).cell? ⟨w.heap.size + 1 + 1 + 1, 2, none⟩ = some (.slice ya P.length yc) := fun o => ((hal2 o).cell (p := ⟨w.heap.size + 1 + 1 + 1, 2, none⟩) (lt_of HI.out.blk)).trans y2
          have HAL : Hid _ := And.intro hal hal2
          clear hal hal2 y0 y1 y3 b0 b1 b2 b3
          go_upto_region 6 with fail
          go_region_law (first
            | (refine step_app ((w4.alloc (.cells #[.string (sB x)] 9)).drew) rfl (.tmp 26) (.tmp 32) 23 rfl U.heap.size 9 i0 (.string ⟨#[]⟩) 1 16 Tryd.underlying23 hi0 hz0 hz1 hz2 rfl (by decide) (.slice ya P.length yc) P.length (tc P) rfl (row_below HI.out.own (HAL.out.1 _)) (some ⟨w4.heap.size, 0, none⟩) 1 1 [.string (sB x)] rfl rfl (.inr ⟨_, rfl, World.news_of_block (nw_heap w4 _)⟩) (by simp [Value.oneCell']) (by unfold maxLen; omega) (by omega) (by have := HI.out.fro.size; have := (HAL.out.1 (.cells #[.string (sB x)] 9)).size; omega) ?_; intro v7 w7 hown hgr hob; obtain ⟨a7, c7, rfl⟩ := row_form hown; have hX7 := FlI.mid HI.out HXl.out (HAL.out.1 _) hgr; have hn := FlI.put HI.out HXl.out (HAL.out.1 _) hown hgr; have HN : Hid _ := hn; obtain ⟨⟨_, _, z2, _⟩, _, _, g2, _⟩ := blk4 hX7; clear hn hX7 hown hgr hob y2 y2d)
            | (refine step_app (w4.alloc (.cells #[.string (sB x)] 9)) rfl (.tmp 26) (.tmp 32) 23 rfl U.heap.size 9 i0 (.string ⟨#[]⟩) 1 16 Tryd.underlying23 hi0 hz0 hz1 hz2 rfl (by decide) (.slice ya P.length yc) P.length (tc P) rfl (row_below HI.out.own (HAL.out.2 _)) (some ⟨w4.heap.size, 0, none⟩) 1 1 [.string (sB x)] rfl rfl (.inr ⟨_, rfl, World.news_of_block (nw_heap w4 _)⟩) (by simp [Value.oneCell']) (by unfold maxLen; omega) (by omega) (by have := HI.out.fro.size; have := (HAL.out.2 (.cells #[.string (sB x)] 9)).size; omega) ?_; intro v7 w7 hown hgr hob; obtain ⟨a7, c7, rfl⟩ := row_form hown; have hX7 := FlI.mid HI.out HXl.out (HAL.out.2 _) hgr; have hn := FlI.put HI.out HXl.out (HAL.out.2 _) hown hgr; have HN : Hid _ := hn; obtain ⟨⟨_, _, z2, _⟩, _, _, g2, _⟩ := blk4 hX7; clear hn hX7 hown hgr hob y2 y2d)
            | fail)
          all_goals
            go_wp2_with fail
            go_roundg gg
            case measure => omega
            case rel => exact ⟨k + 1, _, by omega, by go_num, by rw [HS'.out]; exact HN.out⟩
        · have hr' : rallows B x = false := by simpa using hr
          have hs := HS.out
          rw [if_neg hr, List.append_nil] at hs
          have HS' : Hid _ := hs
          clear hs HS
          rw [hr']
          go_wp2_with fail
          go_roundg gg
          case measure => omega
          case rel => exact ⟨k + 1, _, by omega, by go_num, by rw [HS'.out]; exact HI.out⟩
    · have hkn : k = n := by omega
      subst hkn
      have htk : A.sp.take k = A.sp := List.take_of_length_le (by rw [Hn.out]; exact Nat.le_refl _)
      rw [htk] at HI hfl
      obtain ⟨P, hP⟩ : ∃ P, A.sp.filter (rallows B) = P := ⟨_, rfl⟩
      rw [hP] at HI hfl
      have HPq : Hid _ := hP
      obtain ⟨⟨y0, y1, y2, y3⟩, f0, f1, f2, f3⟩ := blk4 HI.out.blk
      have hk3 := HK.out wr HI.out.fro
      obtain ⟨⟨c0, c1, c2, c3⟩, g0, g1, g2, g3⟩ := blk4 hk3.2.1
      have HE : Hid _ := And.intro hk3.2 HI.out.own.tx
      clear hk3 hP htk b0 b1 b2 b3
      go_wp2_with fail
      refine ret_rw (X := w.heap.size + 1 + 1) Tryd.results35 rfl rfl ⟨_, set4_heap _ _ _ _ HE.out.1.1, rfl, ?_⟩
      rw [HPq.out]
      exact ⟨_, rfl, ⟨_, rfl, set4_resR _ _ _ _ HE.out.2 HE.out.1.1 (.inr rfl)⟩, set4_bel _ _ _ _ HE.out.1.2 (by omega)⟩
end Go.Proofs.YtknfipcegmajaaaDoor
namespace Go.Proofs.YtknfipcegmajaaaDoor
open Go.RowKit
set_option linter.unusedVariables false
set_option linter.unusedSimpArgs false

set_option maxRecDepth 8000 in
set_option maxHeartbeats 4000000 in
theorem rsame_p (A B : Wd) (va vb : Value) (w : World) (ha : WdV w va A) (hb : WdV w vb B) (la : A.sp.length < 1000) (lb : B.sp.length < 1000) :
    Calls Tryd.prog 24 #[va, vb] w fun e w' => e = .returned (.bool (rsame A B)) ∧ Below w.heap.size w w' := by
  obtain ⟨sa, rfl, ha⟩ := ha
  obtain ⟨pa, ca, rfl, ha2⟩ := ha.len
  obtain ⟨sb, rfl, hb⟩ := hb
  obtain ⟨pb, cb, rfl, hb2⟩ := hb.len
  by_cases hp : A.pr = B.pr
  · have ev : rsame A B = (rsub A B && rsub B A) := by unfold rsame; rw [decide_eq_true hp]; rfl
    rw [ev]
    have d : (A.pr == B.pr) = true := by simpa using hp
    clear hp ev
    have hxa : ((w.alloc (bxR A (.slice pa A.sp.length ca))).alloc (bxR B (.slice pb B.sp.length cb))).heap[w.heap.size]? = some (bxR A (.slice pa A.sp.length ca)) := nw_below (nw_heap _ _)
    have hxb : ((w.alloc (bxR A (.slice pa A.sp.length ca))).alloc (bxR B (.slice pb B.sp.length cb))).heap[w.heap.size + 1]? = some (bxR B (.slice pb B.sp.length cb)) := nw_at (sza _ _) _
    have hb0 : Below w.heap.size w ((w.alloc (bxR A (.slice pa A.sp.length ca))).alloc (bxR B (.slice pb B.sp.length cb))) := bel2 _ _ _
    have HX : Hid _ := And.intro hxa hxb
    have HR : Hid _ := And.intro (ha.below hb0) (And.intro (hb.below hb0) hb0)
    clear hxa hxb hb0 ha hb
    have eU : ((w.alloc (bxR A (.slice pa A.sp.length ca))).alloc (bxR B (.slice pb B.sp.length cb))) = ((w.alloc (.cells #[.int .i64 A.how, .string (sB A.nt), .slice pa A.sp.length ca, .int .i64 A.pr] 29)).alloc (.cells #[.int .i64 B.how, .string (sB B.nt), .slice pb B.sp.length cb, .int .i64 B.pr] 29)) := rfl
    rw [eU] at HX HR
    clear eU
    go_enter Tryd.func24, Tryd.ntmps24
    go_upto_region 1 with fail
    generalize ((w.alloc (.cells #[.int .i64 A.how, .string (sB A.nt), .slice pa A.sp.length ca, .int .i64 A.pr] 29)).alloc (.cells #[.int .i64 B.how, .string (sB B.nt), .slice pb B.sp.length cb, .int .i64 B.pr] 29)) = U at HX HR ⊢
    obtain ⟨⟨a0, a1, a2, a3⟩, _⟩ := blk4 HX.out.1
    obtain ⟨⟨b0, b1, b2, b3⟩, _⟩ := blk4 HX.out.2
    by_cases h1 : rsub A B = true
    · go_wp2_with (first
        | (go_at_call 22; have hq := rsub_p A B (wdV A (.slice pa A.sp.length ca)) (wdV B (.slice pb B.sp.length cb)) _ ⟨_, rfl, HR.out.1⟩ ⟨_, rfl, HR.out.2.1⟩ la lb; rw [h1] at hq; (with_reducible refine Calls.mono hq ?_); clear hq; rintro e w1 ⟨rfl, hb1⟩; have HB1 : Hid _ := hb1; obtain ⟨⟨a0, a1, a2, a3⟩, _⟩ := blk4 ((hb1.block _ (lt_of HX.out.1)).trans HX.out.1); obtain ⟨⟨b0, b1, b2, b3⟩, _⟩ := blk4 ((hb1.block _ (lt_of HX.out.2)).trans HX.out.2); clear hb1)
        | (go_at_call 22; have hq := rsub_p B A (wdV B (.slice pb B.sp.length cb)) (wdV A (.slice pa A.sp.length ca)) _ ⟨_, rfl, HR.out.2.1.below HB1.out⟩ ⟨_, rfl, HR.out.1.below HB1.out⟩ lb la; (with_reducible refine Calls.mono hq ?_); clear hq; rintro e w2 ⟨rfl, hb2'⟩; have HB2 : Hid _ := HB1.out.trans (hb2'.mono HB1.out.size); clear hb2'))
      all_goals
        go_ret
        exact ⟨ret_bool (by simp [h1]), HR.out.2.2.trans (HB2.out.mono HR.out.2.2.size)⟩
    · have h1' : rsub A B = false := by simpa using h1
      go_wp2_with (first
        | (go_at_call 22; have hq := rsub_p A B (wdV A (.slice pa A.sp.length ca)) (wdV B (.slice pb B.sp.length cb)) _ ⟨_, rfl, HR.out.1⟩ ⟨_, rfl, HR.out.2.1⟩ la lb; rw [h1'] at hq; (with_reducible refine Calls.mono hq ?_); clear hq; rintro e w1 ⟨rfl, hb1⟩; have HB1 : Hid _ := hb1; obtain ⟨⟨a0, a1, a2, a3⟩, _⟩ := blk4 ((hb1.block _ (lt_of HX.out.1)).trans HX.out.1); obtain ⟨⟨b0, b1, b2, b3⟩, _⟩ := blk4 ((hb1.block _ (lt_of HX.out.2)).trans HX.out.2); clear hb1))
      all_goals
        go_ret
        exact ⟨ret_bool (by simp [h1']), HR.out.2.2.trans (HB1.out.mono HR.out.2.2.size)⟩
  · have ev : rsame A B = false := by unfold rsame; rw [decide_eq_false hp]; rfl
    have d : (A.pr == B.pr) = false := by simpa using hp
    rw [ev]
    clear ha hb
    go_enter Tryd.func24, Tryd.ntmps24
    go_wp2_with fail
    go_ret
    exact ⟨rfl, bel2 _ _ _⟩
end Go.Proofs.YtknfipcegmajaaaDoor
namespace Go.Proofs.YtknfipcegmajaaaDoor
open Go.RowKit
set_option linter.unusedVariables false
set_option linter.unusedSimpArgs false

set_option maxRecDepth 8000 in
set_option maxHeartbeats 4000000 in
theorem rboth_p (A B : Wd) (va vb : Value) (w : World) (ha : WdV w va A) (hb : WdV w vb B) (la : A.sp.length < 1000) (lb : B.sp.length < 1000) :
    Calls Tryd.prog 16 #[va, vb] w fun e w' => WbQ (rboth A B) w e w' := by
  obtain ⟨sa, rfl, ha⟩ := ha
  obtain ⟨pa, ca, rfl, ha2⟩ := ha.len
  obtain ⟨sb, rfl, hb⟩ := hb
  obtain ⟨pb, cb, rfl, hb2⟩ := hb.len
  have HR : Hid _ := And.intro ha hb
  clear ha hb
  by_cases h1 : A.how = 1
  · have ev : rboth A B = ({ B with pr := A.pr }, true) := by unfold rboth; rw [if_pos h1]
    rw [ev]
    go_enter Tryd.func16, Tryd.ntmps16
    go_wp2_with fail
    refine ret_r2 (X := w.heap.size + 1 + 1) Tryd.results16 rfl rfl ⟨_, nw_at (sza2 _ _ _) _, rfl, ?_⟩
    exact ⟨_, rfl, ⟨_, rfl, TxR.below HR.out.2 (bel3 _ _ _ _)⟩, bel3 _ _ _ _⟩
  have d1 : (A.how == 1) = false := by simpa using h1
  by_cases h2 : B.how = 1
  · have ev : rboth A B = (A, true) := by unfold rboth; rw [if_neg h1, if_pos h2]
    rw [ev]
    go_enter Tryd.func16, Tryd.ntmps16
    go_wp2_with fail
    refine ret_r2 (X := w.heap.size + 1 + 1) Tryd.results16 rfl rfl ⟨_, nw_at (sza2 _ _ _) _, rfl, ?_⟩
    exact ⟨_, rfl, ⟨_, rfl, TxR.below HR.out.1 (bel3 _ _ _ _)⟩, bel3 _ _ _ _⟩
  have d2 : (B.how == 1) = false := by simpa using h2
  have hb0 : Below w.heap.size w (((w.alloc (bxR A (.slice pa A.sp.length ca))).alloc (bxR B (.slice pb B.sp.length cb))).alloc (bxR Wd.zero (.slice none 0 0))) := bel3 _ _ _ _
  have hxr : (((w.alloc (bxR A (.slice pa A.sp.length ca))).alloc (bxR B (.slice pb B.sp.length cb))).alloc (bxR Wd.zero (.slice none 0 0))).heap[w.heap.size + 1 + 1]? = some (.cells #[.int .i64 0, .string ⟨#[]⟩, .slice none 0 0, .int .i64 0] 29 (0, 0)) := nw_at (sza2 _ _ _) _
  have eU : (((w.alloc (bxR A (.slice pa A.sp.length ca))).alloc (bxR B (.slice pb B.sp.length cb))).alloc (bxR Wd.zero (.slice none 0 0))) = (((w.alloc (.cells #[.int .i64 A.how, .string (sB A.nt), .slice pa A.sp.length ca, .int .i64 A.pr] 29)).alloc (.cells #[.int .i64 B.how, .string (sB B.nt), .slice pb B.sp.length cb, .int .i64 B.pr] 29)).alloc (.cells #[.int .i64 0, .string ⟨#[]⟩, .slice none 0 0, .int .i64 0] 29)) := rfl
  rw [eU] at hb0 hxr
  clear eU
  have HX : Hid _ := And.intro hb0 hxr
  clear hb0 hxr
  by_cases h3 : A.how = 3
  · have d3 : (A.how == 3) = true := by simpa using h3
    have ev : rboth A B = (⟨3, [], A.sp.filter (rallows B), A.pr⟩, true) := by unfold rboth; rw [if_neg h1, if_neg h2, if_pos h3]
    rw [ev]
    clear h1 h2 h3 ev
    go_enter Tryd.func16, Tryd.ntmps16
    go_wp2_with fail
    generalize (((w.alloc (.cells #[.int .i64 A.how, .string (sB A.nt), .slice pa A.sp.length ca, .int .i64 A.pr] 29)).alloc (.cells #[.int .i64 B.how, .string (sB B.nt), .slice pb B.sp.length cb, .int .i64 B.pr] 29)).alloc (.cells #[.int .i64 0, .string ⟨#[]⟩, .slice none 0 0, .int .i64 0] 29)) = U at HX ⊢
    refine Calls.mono (filter_p A B A.pr _ _ U ⟨_, rfl, TxR.below HR.out.1 HX.out.1⟩ ⟨_, rfl, TxR.below HR.out.2 HX.out.1⟩ la lb) ?_
    rintro e w1 ⟨v1, rfl, hw1, hb1⟩
    obtain ⟨x1, c1', rfl⟩ := hw1.form
    have hx1 := (hb1.block _ (lt_of HX.out.2)).trans HX.out.2
    obtain ⟨⟨c0, c1, c2, c3⟩, f0, f1, f2, f3⟩ := blk4 hx1
    have HE : Hid _ := And.intro hx1 (And.intro (HX.out.1.trans (hb1.mono HX.out.1.size)) (WdV.row hw1))
    clear hb1 hx1 hw1
    go_wp2_with fail
    refine ret_r2 (X := w.heap.size + 1 + 1) Tryd.results16 rfl rfl ⟨_, set4_heap _ _ _ _ HE.out.1, rfl, ?_⟩
    exact ⟨_, rfl, ⟨_, rfl, set4_resR _ _ _ _ HE.out.2.2 HE.out.1 (.inr rfl)⟩, set4_bel _ _ _ _ HE.out.2.1 (by omega)⟩
  have d3 : (A.how == 3) = false := by simpa using h3
  by_cases h4 : B.how = 3
  · have d4 : (B.how == 3) = true := by simpa using h4
    have ev : rboth A B = (⟨3, [], B.sp.filter (rallows A), A.pr⟩, true) := by unfold rboth; rw [if_neg h1, if_neg h2, if_neg h3, if_pos h4]
    rw [ev]
    clear h1 h2 h3 h4 ev
    go_enter Tryd.func16, Tryd.ntmps16
    go_wp2_with fail
    generalize (((w.alloc (.cells #[.int .i64 A.how, .string (sB A.nt), .slice pa A.sp.length ca, .int .i64 A.pr] 29)).alloc (.cells #[.int .i64 B.how, .string (sB B.nt), .slice pb B.sp.length cb, .int .i64 B.pr] 29)).alloc (.cells #[.int .i64 0, .string ⟨#[]⟩, .slice none 0 0, .int .i64 0] 29)) = U at HX ⊢
    refine Calls.mono (filter_p B A A.pr _ _ U ⟨_, rfl, TxR.below HR.out.2 HX.out.1⟩ ⟨_, rfl, TxR.below HR.out.1 HX.out.1⟩ lb la) ?_
    rintro e w1 ⟨v1, rfl, hw1, hb1⟩
    obtain ⟨x1, c1', rfl⟩ := hw1.form
    have hx1 := (hb1.block _ (lt_of HX.out.2)).trans HX.out.2
    obtain ⟨⟨c0, c1, c2, c3⟩, f0, f1, f2, f3⟩ := blk4 hx1
    have HE : Hid _ := And.intro hx1 (And.intro (HX.out.1.trans (hb1.mono HX.out.1.size)) (WdV.row hw1))
    clear hb1 hx1 hw1
    go_wp2_with fail
    refine ret_r2 (X := w.heap.size + 1 + 1) Tryd.results16 rfl rfl ⟨_, set4_heap _ _ _ _ HE.out.1, rfl, ?_⟩
    exact ⟨_, rfl, ⟨_, rfl, set4_resR _ _ _ _ HE.out.2.2 HE.out.1 (.inr rfl)⟩, set4_bel _ _ _ _ HE.out.2.1 (by omega)⟩
  have d4 : (B.how == 3) = false := by simpa using h4
  clear HX
  by_cases h5 : A.nt = B.nt ∨ B.nt = []
  · have ev : rboth A B = (A, true) := by unfold rboth; rw [if_neg h1, if_neg h2, if_neg h3, if_neg h4, if_pos h5]
    rw [ev]
    have en : (sB B.nt).toList.isEmpty = decide (B.nt = []) := emp_dec _
    have HH : Hid _ := h5
    clear ev h1 h2 h3 h4
    go_enter Tryd.func16, Tryd.ntmps16
    go_wp2_with fail
    all_goals first
      | (refine ret_r2 (X := w.heap.size + 1 + 1) Tryd.results16 rfl rfl ⟨_, nw_at (sza2 _ _ _) _, rfl, ?_⟩
         exact ⟨_, rfl, ⟨_, rfl, TxR.below HR.out.1 (bel3 _ _ _ _)⟩, bel3 _ _ _ _⟩)
      | (exfalso; have := HH.out; simp_all [sBl_inj])
  have h5' : ¬ A.nt = B.nt := fun q => h5 (.inl q)
  have h6 : ¬ B.nt = [] := fun q => h5 (.inr q)
  have e5 : ((sB A.nt).toList == (sB B.nt).toList) = false := by simp [sBl_inj, h5']
  have en : (sB B.nt).toList.isEmpty = false := by rw [emp_dec]; exact decide_eq_false h6
  by_cases h7 : A.nt = []
  · have ev : rboth A B = ({ B with pr := A.pr }, true) := by unfold rboth; rw [if_neg h1, if_neg h2, if_neg h3, if_neg h4, if_neg h5, if_pos h7]
    have ea : (sB A.nt).toList.isEmpty = true := by rw [emp_dec]; exact decide_eq_true h7
    rw [ev]
    have HH : Hid _ := And.intro h5' h6
    clear ev h1 h2 h3 h4 h5 h6 h7 h5'
    go_enter Tryd.func16, Tryd.ntmps16
    go_wp2_with fail
    all_goals first
      | (refine ret_r2 (X := w.heap.size + 1 + 1) Tryd.results16 rfl rfl ⟨_, nw_at (sza2 _ _ _) _, rfl, ?_⟩
         exact ⟨_, rfl, ⟨_, rfl, TxR.below HR.out.2 (bel3 _ _ _ _)⟩, bel3 _ _ _ _⟩)
      | (exfalso; have := HH.out; simp_all [sBl_inj])
  · have ev : rboth A B = (Wd.zero, false) := by unfold rboth; rw [if_neg h1, if_neg h2, if_neg h3, if_neg h4, if_neg h5, if_neg h7]
    have ea : (sB A.nt).toList.isEmpty = false := by rw [emp_dec]; exact decide_eq_false h7
    rw [ev]
    have HH : Hid _ := And.intro h5' h6
    clear ev h1 h2 h3 h4 h5 h6 h7 h5'
    go_enter Tryd.func16, Tryd.ntmps16
    go_wp2_with fail
    all_goals first
      | (refine ret_r2 (X := w.heap.size + 1 + 1) Tryd.results16 rfl rfl ⟨_, nw_at (sza2 _ _ _) _, rfl, ?_⟩
         exact ⟨_, rfl, ⟨_, rfl, TxR.nil _ _ _⟩, bel3 _ _ _ _⟩)
      | (exfalso; have := HH.out; simp_all [sBl_inj])
end Go.Proofs.YtknfipcegmajaaaDoor
namespace Go.Proofs.YtknfipcegmajaaaDoor
open Go.RowKit
set_option linter.unusedVariables false
set_option linter.unusedSimpArgs false

theorem lw_eq {x : Tx} : ∀ {l : List Tx} {k : Nat} (hk : k ≤ l.length) (h1 : ∀ j (h : j < l.length), j < k → l[j] < x) (h2 : ∀ h : k < l.length, ¬ l[k] < x), lw x l = k
  | [], k, hk, _, _ => by simp at hk; simp [lw, hk]
  | a :: l, 0, _, _, h2 => by
    have := h2 (by simp)
    simp only [List.getElem_cons_zero] at this
    rw [lw, if_neg this]
  | a :: l, k + 1, hk, h1, h2 => by
    have h0 := h1 0 (by simp) (by omega)
    simp only [List.getElem_cons_zero] at h0
    rw [lw, if_pos h0, lw_eq (l := l) (k := k) (by simpa using hk) (fun j h hj => by
      have := h1 (j + 1) (by simpa using h) (by omega)
      simpa using this) (fun h => by
      have := h2 (by simpa using h)
      simpa using this)]
theorem tx_cell {w : World} {g off c n : Nat} {l : List Tx} (h : TxR w (.slice (some ⟨g, off, none⟩) n c) l) (j : Nat) (hj : j < l.length) : w.cell? ⟨g, off + j, none⟩ = some (.string (sB l[j])) := by
  obtain ⟨g', off', e, hg, hat⟩ := tx_at h (by
    obtain ⟨a', c'', e, _, _⟩ := h
    simp only [Value.slice.injEq] at e
    omega)
  simp only [Option.some.injEq, Addr.mk.injEq] at e
  obtain ⟨rfl, rfl, _⟩ := e
  exact hat j hj
theorem tx_sub {w : World} {g off c n : Nat} {l : List Tx} (h : TxR w (.slice (some ⟨g, off, none⟩) n c) l) (i m c' : Nat) (him : i + m ≤ l.length) (hc : m ≤ c') : TxR w (.slice (some ⟨g, off + i, none⟩) m c') ((l.drop i).take m) := by
  have hlen : ((l.drop i).take m).length = m := by simp; omega
  refine ⟨some ⟨g, off + i, none⟩, c', by rw [hlen], by rw [hlen]; exact hc, ?_⟩
  by_cases h0 : m = 0
  · left; subst h0; simp
  · obtain ⟨g', off', e, hg, hat⟩ := tx_at h (by
      obtain ⟨a', c'', e, _, _⟩ := h
      simp only [Value.slice.injEq] at e
      omega)
    simp only [Option.some.injEq, Addr.mk.injEq] at e
    obtain ⟨rfl, rfl, _⟩ := e
    refine .inr ⟨g, off + i, rfl, hg, fun j hj => ?_⟩
    have := hat (i + j) (by simp at hj; omega)
    rw [Nat.add_assoc, this]
    simp
set_option maxRecDepth 8000 in
set_option maxHeartbeats 4000000 in
theorem put_p (l : List Tx) (x : Tx) (v : Value) (w : World) (h : TxR w v l) (hi : Inc l) (hl : l.length < 5000) (hne : l ≠ []) :
    Calls Tryd.prog 30 #[v, eS x] w fun e w' => ∃ v', e = .returned v' ∧ TxR w' v' (rput l x) ∧ Below w.heap.size w w' := by
  obtain ⟨i50, hi50, hz0, hz1, hz3⟩ := info_sp
  obtain ⟨a, c, rfl, hc⟩ := h.len
  have hp := List.length_pos_iff.2 hne
  obtain ⟨g0, off, rfl, hg0, hat⟩ := tx_at h hp
  have HX : Hid _ := And.intro h hi
  clear h hi hat hne
  obtain ⟨N, hN⟩ : ∃ N, sB x = N := ⟨_, rfl⟩
  have HN : Hid (sB x = N) := hN
  generalize hnn : l.length = n at hl hc hp HX ⊢
  have Hn : Hid (l.length = n) := hnn
  clear hnn
  show Calls Tryd.prog 30 #[.slice (some ⟨g0, off, none⟩) n c, .string (sB x)] w _
  rw [hN]
  clear hN
  go_enter Tryd.func30, Tryd.ntmps30
  go_wp2_with fail
  go_loopg [5] (n + 1) (fun g v5 wr => ∃ k : Nat, k + g = n + 1 ∧ v5 = .int .i64 (k : Int) ∧ k ≤ n ∧ (∀ j (h : j < l.length), j < k → l[j] < x) ∧ wr = w)
  case atStart => exact ⟨0, by omega, rfl, by omega, fun j h hj => by omega, rfl⟩
  case round =>
    obtain ⟨k, hk, rfl, hkn, hall, hw⟩ := hrel
    have hw' := hw.symm
    clear hw
    subst hw'
    have HA : Hid _ := hall
    clear hall
    by_cases hlt : k < n
    · have hkl : k < l.length := by rw [Hn.out]; exact hlt
      have e0 := tx_cell HX.out.1 k hkl
      have hle := less_eq l[k] x
      rw [HN.out] at hle
      by_cases hq : l[k] < x
      · obtain ⟨gg, rfl⟩ : ∃ gg, gk = gg + 1 := ⟨gk - 1, by omega⟩
        rw [decide_eq_true hq] at hle
        have HQ : Hid _ := hq
        generalize sB l[k] = M at e0 hle
        clear hq
        go_wp2_with fail
        go_roundg gg
        case measure => omega
        case rel =>
          refine ⟨k + 1, by omega, by go_num, by omega, fun j h hj => ?_, rfl⟩
          by_cases e : j = k
          · subst e; exact HQ.out
          · exact HA.out j h (by omega)
      · rw [decide_eq_false hq] at hle
        have hlw : lw x l = k := lw_eq (by rw [Hn.out]; omega) HA.out (fun _ => hq)
        by_cases he : l[k] = x
        · have hr : rput l x = l := rput_in HX.out.2 (by rw [← he]; exact List.getElem_mem hkl)
          have hM : sB l[k] = N := by rw [he]; exact HN.out
          rw [hM] at e0 hle
          have HRR : Hid _ := And.intro hr HX.out.1
          clear hM he hq hlw hr HX HA
          go_wp2_with fail
          go_ret
          exact ⟨_, rfl, by rw [HRR.out.1]; exact HRR.out.2, Below.refl _ _⟩
        · have hni : x ∉ l := fun hm => by
            obtain ⟨_, q⟩ := (lw_mem HX.out.2).2 hm
            simp only [hlw] at q
            exact he q
          have hr : rput l x = l.take k ++ x :: l.drop k := by rw [rput_out HX.out.2 hni, hlw]
          have hM : ((sB l[k]).toList == N.toList) = false := by rw [← HN.out]; simp [sBl_inj, he]
          generalize sB l[k] = M at e0 hle hM
          have t1 := tx_sub HX.out.1 0 k c (by rw [Hn.out]; omega) (by omega)
          have t2 := tx_sub HX.out.1 k (n - k) (c - k) (by rw [Hn.out]; omega) (by omega)
          have HT : Hid _ := And.intro t1 (And.intro t2 hr)
          clear t1 t2 hr hni he hq hlw HA
          have hkn' : k ≤ n := hkn
          have hW1 : Below w.heap.size w (w.alloc (.cells #[] 9)) := bel1 _ _
          have ho : OwS (w.alloc (.cells #[] 9)) w.heap.size (.slice (some ⟨w.heap.size, 0, none⟩) 0 0) [] := ⟨rfl, .inr ⟨w.heap.size, 0, #[], rfl, Nat.le_refl _, nw_heap w _, Nat.le_refl _, by unfold maxLen; omega, by simp, by simp [tc]⟩⟩
          have hn1 := tx_news (HT.out.1.below hW1)
          have hl1 : (tc (l.take k)).length = k := by rw [tc_len, List.length_take, Hn.out]; omega
          have hl2 : (tc (l.drop k)).length = n - k := by rw [tc_len, List.length_drop, Hn.out]
          have HO : Hid _ := And.intro ho (And.intro hW1 (And.intro hn1 (And.intro hl1 hl2)))
          clear hW1 ho hn1 hl1 hl2
          go_wp2_with (first
            | (at_builtin; refine wpList_app (P := Tryd.prog) (w.alloc (.cells #[] 9)) rfl (.tmp 34) (.tmp 37) 23 rfl w.heap.size 9 i50 (.string ⟨#[]⟩) 1 16 Tryd.underlying23 hi50 hz0 hz1 hz3 rfl (by decide) (.slice (some ⟨w.heap.size, 0, none⟩) 0 0) 0 (tc []) rfl HO.out.1 (some ⟨g0, off, none⟩) k c (tc (l.take k)) rfl (by rw [Nat.mul_one]; exact HO.out.2.2.2.1) HO.out.2.2.1 (tc_one _) (by unfold maxLen; omega) (by omega) (by rw [sza]; omega) ?_; intro v7 w7 hown7 hg7 _; have hb7 := HO.out.2.1.grown hg7 HO.out.2.1.size (fun j hj => (row_base HO.out.1 j hj).1); rw [Nat.zero_add] at hown7; obtain ⟨a7, c7, rfl⟩ := row_form hown7; have H7 : Hid _ := And.intro hown7 hb7; clear hown7 hg7 hb7)
            | (at_builtin; refine wpList_app (P := Tryd.prog) (w7.alloc (.cells #[.string N] 9)) rfl (.tmp 38) (.tmp 40) 23 rfl w.heap.size 9 i50 (.string ⟨#[]⟩) 1 16 Tryd.underlying23 hi50 hz0 hz1 hz3 rfl (by decide) (.slice a7 k c7) k (tc [] ++ tc (l.take k)) rfl (row_below H7.out.1 (bel1 _ _)) (some ⟨w7.heap.size, 0, none⟩) 1 1 [.string N] rfl rfl (.inr ⟨_, rfl, World.news_of_block (nw_heap w7 _)⟩) (by simp [Value.oneCell']) (by unfold maxLen; omega) (by omega) (by have := H7.out.2.size; rw [sza]; omega) ?_; intro v8 w8 hown8 hg8 _; have hb8 := (H7.out.2.trans ((bel1 w7 _).mono H7.out.2.size)).grown hg8 (by have := H7.out.2.size; rw [sza]; omega) (fun j hj => (row_base H7.out.1 j hj).1); obtain ⟨a8, c8, rfl⟩ := row_form hown8; have H8 : Hid _ := And.intro hown8 hb8; clear hown8 hg8 hb8)
            | (at_builtin; refine wpList_app (P := Tryd.prog) w8 rfl (.tmp 42) (.tmp 45) 23 rfl w.heap.size 9 i50 (.string ⟨#[]⟩) 1 16 Tryd.underlying23 hi50 hz0 hz1 hz3 rfl (by decide) (.slice a8 (k + 1) c8) (k + 1) (tc [] ++ tc (l.take k) ++ [.string N]) rfl H8.out.1 (some ⟨g0, off + k, none⟩) (n - k) (c - k) (tc (l.drop k)) rfl (by rw [Nat.mul_one]; exact HO.out.2.2.2.2) (by have := HT.out.2.1.below H8.out.2; rw [List.take_of_length_le (by rw [List.length_drop, Hn.out]; omega)] at this; exact tx_news this) (tc_one _) (by unfold maxLen; omega) (by omega) H8.out.2.size ?_; intro v9 w9 hown9 hg9 _; have hb9 := H8.out.2.grown hg9 H8.out.2.size (fun j hj => (row_base H8.out.1 j hj).1); obtain ⟨a9, c9, rfl⟩ := row_form hown9; have H9 : Hid _ := And.intro hown9 hb9; clear hown9 hg9 hb9))
          go_ret
          refine ⟨_, rfl, ?_, H9.out.2⟩
          have hlen : (l.take k ++ x :: l.drop k).length = k + 1 + (n - k) := by
            simp [Hn.out]; omega
          have ho9 : OwS w9 w.heap.size (.slice a9 (k + 1 + (n - k)) c9) (l.take k ++ x :: l.drop k) := by
            unfold OwS
            rw [hlen]
            have e : tc (l.take k ++ x :: l.drop k) = tc [] ++ tc (l.take k) ++ [.string N] ++ tc (l.drop k) := by
              rw [← HN.out]; simp [tc]
            rw [e]
            exact H9.out.1
          have := ho9.tx
          rw [HT.out.2.2]
          exact this
    · have hke : k = n := by omega
      subst hke
      have hlw : lw x l = k := lw_eq (by rw [Hn.out]; omega) HA.out (fun h => by have := Hn.out; omega)
      have hni : x ∉ l := fun hm => by
        obtain ⟨q, _⟩ := (lw_mem HX.out.2).2 hm
        have := Hn.out
        omega
      have hr : rput l x = l.take k ++ x :: l.drop k := by rw [rput_out HX.out.2 hni, hlw]
      have t1 := tx_sub HX.out.1 0 k c (by rw [Hn.out]; omega) (by omega)
      have HT : Hid _ := And.intro t1 (And.intro t1 hr)
      clear t1 hr hni hlw HA
      have hW1 : Below w.heap.size w (w.alloc (.cells #[] 9)) := bel1 _ _
      have ho : OwS (w.alloc (.cells #[] 9)) w.heap.size (.slice (some ⟨w.heap.size, 0, none⟩) 0 0) [] := ⟨rfl, .inr ⟨w.heap.size, 0, #[], rfl, Nat.le_refl _, nw_heap w _, Nat.le_refl _, by unfold maxLen; omega, by simp, by simp [tc]⟩⟩
      have hn1 := tx_news (HT.out.1.below hW1)
      have hl1 : (tc (l.take k)).length = k := by rw [tc_len, List.length_take, Hn.out]; omega
      have hl2 : l.drop k = [] := List.drop_eq_nil_of_le (by rw [Hn.out]; omega)
      have HO : Hid _ := And.intro ho (And.intro hW1 (And.intro hn1 (And.intro hl1 hl2)))
      clear hW1 ho hn1 hl1 hl2
      go_wp2_with (first
        | (at_builtin; refine wpList_app (P := Tryd.prog) (w.alloc (.cells #[] 9)) rfl (.tmp 34) (.tmp 37) 23 rfl w.heap.size 9 i50 (.string ⟨#[]⟩) 1 16 Tryd.underlying23 hi50 hz0 hz1 hz3 rfl (by decide) (.slice (some ⟨w.heap.size, 0, none⟩) 0 0) 0 (tc []) rfl HO.out.1 (some ⟨g0, off, none⟩) k c (tc (l.take k)) rfl (by rw [Nat.mul_one]; exact HO.out.2.2.2.1) HO.out.2.2.1 (tc_one _) (by unfold maxLen; omega) (by omega) (by rw [sza]; omega) ?_; intro v7 w7 hown7 hg7 _; have hb7 := HO.out.2.1.grown hg7 HO.out.2.1.size (fun j hj => (row_base HO.out.1 j hj).1); rw [Nat.zero_add] at hown7; obtain ⟨a7, c7, rfl⟩ := row_form hown7; have H7 : Hid _ := And.intro hown7 hb7; clear hown7 hg7 hb7)
        | (at_builtin; refine wpList_app (P := Tryd.prog) (w7.alloc (.cells #[.string N] 9)) rfl (.tmp 38) (.tmp 40) 23 rfl w.heap.size 9 i50 (.string ⟨#[]⟩) 1 16 Tryd.underlying23 hi50 hz0 hz1 hz3 rfl (by decide) (.slice a7 k c7) k (tc [] ++ tc (l.take k)) rfl (row_below H7.out.1 (bel1 _ _)) (some ⟨w7.heap.size, 0, none⟩) 1 1 [.string N] rfl rfl (.inr ⟨_, rfl, World.news_of_block (nw_heap w7 _)⟩) (by simp [Value.oneCell']) (by unfold maxLen; omega) (by omega) (by have := H7.out.2.size; rw [sza]; omega) ?_; intro v8 w8 hown8 hg8 _; have hb8 := (H7.out.2.trans ((bel1 w7 _).mono H7.out.2.size)).grown hg8 (by have := H7.out.2.size; rw [sza]; omega) (fun j hj => (row_base H7.out.1 j hj).1); obtain ⟨a8, c8, rfl⟩ := row_form hown8; have H8 : Hid _ := And.intro hown8 hb8; clear hown8 hg8 hb8)
        | (at_builtin; refine wpList_app (P := Tryd.prog) w8 rfl (.tmp 42) (.tmp 45) 23 rfl w.heap.size 9 i50 (.string ⟨#[]⟩) 1 16 Tryd.underlying23 hi50 hz0 hz1 hz3 rfl (by decide) (.slice a8 (k + 1) c8) (k + 1) (tc [] ++ tc (l.take k) ++ [.string N]) rfl H8.out.1 _ 0 _ (tc []) rfl rfl (.inl rfl) (tc_one _) (by unfold maxLen; omega) (by omega) H8.out.2.size ?_; intro v9 w9 hown9 hg9 _; have hb9 := H8.out.2.grown hg9 H8.out.2.size (fun j hj => (row_base H8.out.1 j hj).1); obtain ⟨a9, c9, rfl⟩ := row_form hown9; have H9 : Hid _ := And.intro hown9 hb9; clear hown9 hg9 hb9))
      all_goals
        go_ret
        refine ⟨_, rfl, ?_, H9.out.2⟩
        have hlen : (l.take k ++ x :: l.drop k).length = k + 1 + 0 := by
          rw [HO.out.2.2.2.2]; simp [Hn.out]
        have ho9 : OwS w9 w.heap.size (.slice a9 (k + 1 + 0) c9) (l.take k ++ x :: l.drop k) := by
          unfold OwS
          rw [hlen]
          have e : tc (l.take k ++ x :: l.drop k) = tc [] ++ tc (l.take k) ++ [.string N] ++ tc (l.drop k) := by
            rw [← HN.out]; simp [tc]
          rw [e, HO.out.2.2.2.2]
          exact H9.out.1
        have := ho9.tx
        rw [HT.out.2.2]
        exact this
set_option maxRecDepth 8000 in
set_option maxHeartbeats 4000000 in
theorem put_nil (x : Tx) (a : Option Addr) (c : Nat) (w : World) :
    Calls Tryd.prog 30 #[.slice a 0 c, eS x] w fun e w' => ∃ v', e = .returned v' ∧ TxR w' v' [x] ∧ Below w.heap.size w w' := by
  obtain ⟨i50, hi50, hz0, hz1, hz3⟩ := info_sp
  obtain ⟨N, hN⟩ : ∃ N, sB x = N := ⟨_, rfl⟩
  have HN : Hid (sB x = N) := hN
  show Calls Tryd.prog 30 #[.slice a 0 c, .string (sB x)] w _
  rw [hN]
  clear hN
  have hW1 : Below w.heap.size w (w.alloc (.cells #[] 9)) := bel1 _ _
  have ho : OwS (w.alloc (.cells #[] 9)) w.heap.size (.slice (some ⟨w.heap.size, 0, none⟩) 0 0) [] := ⟨rfl, .inr ⟨w.heap.size, 0, #[], rfl, Nat.le_refl _, nw_heap w _, Nat.le_refl _, by unfold maxLen; omega, by simp, by simp [tc]⟩⟩
  have HO : Hid _ := And.intro ho hW1
  clear hW1 ho
  go_enter Tryd.func30, Tryd.ntmps30
  go_wp2_with fail
  go_loopg [5] 1 (fun g v5 wr => ∃ k : Nat, v5 = .int .i64 (k : Int) ∧ k = 0 ∧ wr = w)
  case atStart => exact ⟨0, rfl, rfl, rfl⟩
  case round =>
    obtain ⟨k, rfl, rfl, hw⟩ := hrel
    have hw' := hw.symm
    clear hw
    subst hw'
    cases a with
    | none =>
      go_wp2_with (first
        | (at_builtin; refine wpList_app (P := Tryd.prog) (w.alloc (.cells #[] 9)) rfl (.tmp 34) (.tmp 37) 23 rfl w.heap.size 9 i50 (.string ⟨#[]⟩) 1 16 Tryd.underlying23 hi50 hz0 hz1 hz3 rfl (by decide) (.slice (some ⟨w.heap.size, 0, none⟩) 0 0) 0 (tc []) rfl HO.out.1 _ 0 _ (tc []) rfl rfl (.inl rfl) (tc_one _) (by unfold maxLen; omega) (by omega) (by rw [sza]; omega) ?_; intro v7 w7 hown7 hg7 _; have hb7 := HO.out.2.grown hg7 HO.out.2.size (fun j hj => (row_base HO.out.1 j hj).1); obtain ⟨a7, c7, rfl⟩ := row_form hown7; have H7 : Hid _ := And.intro hown7 hb7; clear hown7 hg7 hb7)
        | (at_builtin; refine wpList_app (P := Tryd.prog) (w7.alloc (.cells #[.string N] 9)) rfl (.tmp 38) (.tmp 40) 23 rfl w.heap.size 9 i50 (.string ⟨#[]⟩) 1 16 Tryd.underlying23 hi50 hz0 hz1 hz3 rfl (by decide) (.slice a7 (0 + 0) c7) (0 + 0) (tc [] ++ tc []) rfl (row_below H7.out.1 (bel1 _ _)) (some ⟨w7.heap.size, 0, none⟩) 1 1 [.string N] rfl rfl (.inr ⟨_, rfl, World.news_of_block (nw_heap w7 _)⟩) (by simp [Value.oneCell']) (by unfold maxLen; omega) (by omega) (by have := H7.out.2.size; rw [sza]; omega) ?_; intro v8 w8 hown8 hg8 _; have hb8 := (H7.out.2.trans ((bel1 w7 _).mono H7.out.2.size)).grown hg8 (by have := H7.out.2.size; rw [sza]; omega) (fun j hj => (row_base H7.out.1 j hj).1); obtain ⟨a8, c8, rfl⟩ := row_form hown8; have H8 : Hid _ := And.intro hown8 hb8; clear hown8 hg8 hb8)
        | (at_builtin; refine wpList_app (P := Tryd.prog) w8 rfl (.tmp 42) (.tmp 45) 23 rfl w.heap.size 9 i50 (.string ⟨#[]⟩) 1 16 Tryd.underlying23 hi50 hz0 hz1 hz3 rfl (by decide) (.slice a8 (0 + 0 + 1) c8) (0 + 0 + 1) (tc [] ++ tc [] ++ [.string N]) rfl H8.out.1 _ 0 _ (tc []) rfl rfl (.inl rfl) (tc_one _) (by unfold maxLen; omega) (by omega) H8.out.2.size ?_; intro v9 w9 hown9 hg9 _; have hb9 := H8.out.2.grown hg9 H8.out.2.size (fun j hj => (row_base H8.out.1 j hj).1); obtain ⟨a9, c9, rfl⟩ := row_form hown9; have H9 : Hid _ := And.intro hown9 hb9; clear hown9 hg9 hb9))
      all_goals
        go_ret
        refine ⟨_, rfl, ?_, H9.out.2⟩
        have ho9 : OwS w9 w.heap.size (.slice a9 1 c9) [x] := by
          have := H9.out.1
          rw [← HN.out] at this
          exact this
        exact ho9.tx
    | some ad =>
      go_wp2_with (first
        | (at_builtin; refine wpList_app (P := Tryd.prog) (w.alloc (.cells #[] 9)) rfl (.tmp 34) (.tmp 37) 23 rfl w.heap.size 9 i50 (.string ⟨#[]⟩) 1 16 Tryd.underlying23 hi50 hz0 hz1 hz3 rfl (by decide) (.slice (some ⟨w.heap.size, 0, none⟩) 0 0) 0 (tc []) rfl HO.out.1 _ 0 _ (tc []) rfl rfl (.inl rfl) (tc_one _) (by unfold maxLen; omega) (by omega) (by rw [sza]; omega) ?_; intro v7 w7 hown7 hg7 _; have hb7 := HO.out.2.grown hg7 HO.out.2.size (fun j hj => (row_base HO.out.1 j hj).1); obtain ⟨a7, c7, rfl⟩ := row_form hown7; have H7 : Hid _ := And.intro hown7 hb7; clear hown7 hg7 hb7)
        | (at_builtin; refine wpList_app (P := Tryd.prog) (w7.alloc (.cells #[.string N] 9)) rfl (.tmp 38) (.tmp 40) 23 rfl w.heap.size 9 i50 (.string ⟨#[]⟩) 1 16 Tryd.underlying23 hi50 hz0 hz1 hz3 rfl (by decide) (.slice a7 (0 + 0) c7) (0 + 0) (tc [] ++ tc []) rfl (row_below H7.out.1 (bel1 _ _)) (some ⟨w7.heap.size, 0, none⟩) 1 1 [.string N] rfl rfl (.inr ⟨_, rfl, World.news_of_block (nw_heap w7 _)⟩) (by simp [Value.oneCell']) (by unfold maxLen; omega) (by omega) (by have := H7.out.2.size; rw [sza]; omega) ?_; intro v8 w8 hown8 hg8 _; have hb8 := (H7.out.2.trans ((bel1 w7 _).mono H7.out.2.size)).grown hg8 (by have := H7.out.2.size; rw [sza]; omega) (fun j hj => (row_base H7.out.1 j hj).1); obtain ⟨a8, c8, rfl⟩ := row_form hown8; have H8 : Hid _ := And.intro hown8 hb8; clear hown8 hg8 hb8)
        | (at_builtin; refine wpList_app (P := Tryd.prog) w8 rfl (.tmp 42) (.tmp 45) 23 rfl w.heap.size 9 i50 (.string ⟨#[]⟩) 1 16 Tryd.underlying23 hi50 hz0 hz1 hz3 rfl (by decide) (.slice a8 (0 + 0 + 1) c8) (0 + 0 + 1) (tc [] ++ tc [] ++ [.string N]) rfl H8.out.1 _ 0 _ (tc []) rfl rfl (.inl rfl) (tc_one _) (by unfold maxLen; omega) (by omega) H8.out.2.size ?_; intro v9 w9 hown9 hg9 _; have hb9 := H8.out.2.grown hg9 H8.out.2.size (fun j hj => (row_base H8.out.1 j hj).1); obtain ⟨a9, c9, rfl⟩ := row_form hown9; have H9 : Hid _ := And.intro hown9 hb9; clear hown9 hg9 hb9))
      all_goals
        go_ret
        refine ⟨_, rfl, ?_, H9.out.2⟩
        have ho9 : OwS w9 w.heap.size (.slice a9 1 c9) [x] := by
          have := H9.out.1
          rw [← HN.out] at this
          exact this
        exact ho9.tx
theorem put_any (l : List Tx) (x : Tx) (v : Value) (w : World) (h : TxR w v l) (hi : Inc l) (hl : l.length < 5000) :
    Calls Tryd.prog 30 #[v, eS x] w fun e w' => ∃ v', e = .returned v' ∧ TxR w' v' (rput l x) ∧ Below w.heap.size w w' := by
  by_cases h0 : l = []
  · subst h0
    obtain ⟨a, c, rfl, _⟩ := h.len
    exact put_nil x a c w
  · exact put_p l x v w h hi hl h0
end Go.Proofs.YtknfipcegmajaaaDoor
namespace Go.Proofs.YtknfipcegmajaaaDoor
open Go.RowKit
set_option linter.unusedVariables false
set_option linter.unusedSimpArgs false

theorem len_rput (x : Tx) : ∀ l : List Tx, (rput l x).length ≤ l.length + 1
  | [] => by simp [rput]
  | a :: l => by
    have := len_rput x l
    unfold rput
    split
    · simp; exact this
    · split <;> simp
theorem len_fold : ∀ (m l : List Tx), (m.foldl rput l).length ≤ l.length + m.length
  | [], l => by simp
  | a :: m, l => by
    have h1 := len_fold m (rput l a)
    have h2 := len_rput a l
    rw [List.foldl_cons, List.length_cons]
    omega
theorem fold_snoc {m l : List Tx} {k : Nat} (h : k < m.length) : (m.take (k + 1)).foldl rput l = rput ((m.take k).foldl rput l) m[k] := by
  rw [take_snoc h, List.foldl_append]; rfl
set_option maxRecDepth 8000 in
set_option maxHeartbeats 4000000 in
theorem runion_these (A B : Wd) (va vb : Value) (w : World) (ha : WdV w va A) (hb : WdV w vb B) (ia : Inc A.sp) (h3 : A.how = 3) (h4 : B.how = 3) (la : A.sp.length < 1000) (lb : B.sp.length < 1000) :
    Calls Tryd.prog 18 #[va, vb] w fun e w' => WbQ (runion A B) w e w' := by
  obtain ⟨sa, rfl, ha⟩ := ha
  obtain ⟨pa, ca, rfl, ha2⟩ := ha.len
  obtain ⟨sb, rfl, hb⟩ := hb
  obtain ⟨pb, cb, rfl, hb2⟩ := hb.len
  have ev : runion A B = (⟨3, [], B.sp.foldl rput A.sp, A.pr⟩, true) := by unfold runion; rw [if_neg (by omega), if_pos ⟨h3, h4⟩]
  rw [ev]
  have dA1 : (A.how == 1) = false := by rw [h3]; rfl
  have dA3 : (A.how == 3) = true := by rw [h3]; rfl
  have dB1 : (B.how == 1) = false := by rw [h4]; rfl
  have dB3 : (B.how == 3) = true := by rw [h4]; rfl
  have hb0 : Below w.heap.size w (((w.alloc (.cells #[.int .i64 A.how, .string (sB A.nt), .slice pa A.sp.length ca, .int .i64 A.pr] 29)).alloc (.cells #[.int .i64 B.how, .string (sB B.nt), .slice pb B.sp.length cb, .int .i64 B.pr] 29)).alloc (.cells #[.int .i64 0, .string ⟨#[]⟩, .slice none 0 0, .int .i64 0] 29)) := bel3 _ _ _ _
  have hxb : (((w.alloc (.cells #[.int .i64 A.how, .string (sB A.nt), .slice pa A.sp.length ca, .int .i64 A.pr] 29)).alloc (.cells #[.int .i64 B.how, .string (sB B.nt), .slice pb B.sp.length cb, .int .i64 B.pr] 29)).alloc (.cells #[.int .i64 0, .string ⟨#[]⟩, .slice none 0 0, .int .i64 0] 29)).heap[w.heap.size + 1]? = some (.cells #[.int .i64 B.how, .string (sB B.nt), .slice pb B.sp.length cb, .int .i64 B.pr] 29 (0, 0)) := nw_below (nw_at (sza _ _) _)
  have hxr : (((w.alloc (.cells #[.int .i64 A.how, .string (sB A.nt), .slice pa A.sp.length ca, .int .i64 A.pr] 29)).alloc (.cells #[.int .i64 B.how, .string (sB B.nt), .slice pb B.sp.length cb, .int .i64 B.pr] 29)).alloc (.cells #[.int .i64 0, .string ⟨#[]⟩, .slice none 0 0, .int .i64 0] 29)).heap[w.heap.size + 1 + 1]? = some (.cells #[.int .i64 0, .string ⟨#[]⟩, .slice none 0 0, .int .i64 0] 29 (0, 0)) := nw_at (sza2 _ _ _) _
  have HX : Hid _ := And.intro (ha.below hb0) (And.intro (hb.below hb0) (And.intro hb0 (And.intro hxb hxr)))
  have HI : Hid _ := ia
  clear ha hb h3 h4 hb0 hxb hxr ia ev
  go_enter Tryd.func18, Tryd.ntmps18
  go_wp2_with fail
  generalize (((w.alloc (.cells #[.int .i64 A.how, .string (sB A.nt), .slice pa A.sp.length ca, .int .i64 A.pr] 29)).alloc (.cells #[.int .i64 B.how, .string (sB B.nt), .slice pb B.sp.length cb, .int .i64 B.pr] 29)).alloc (.cells #[.int .i64 0, .string ⟨#[]⟩, .slice none 0 0, .int .i64 0] 29)) = U at HX ⊢
  generalize hnn : B.sp.length = n at lb hb2 HX ⊢
  have Hn : Hid (B.sp.length = n) := hnn
  clear hnn
  go_loopg [7, 8] n (fun g v7 v8 wr => ∃ k : Nat, k + g = n ∧ v8 = .int .i64 (k : Int) ∧ TxR wr v7 ((B.sp.take k).foldl rput A.sp) ∧ Below U.heap.size U wr)
  case atStart => exact ⟨0, by omega, rfl, HX.out.1, Below.refl _ _⟩
  case round =>
    obtain ⟨k, hk, rfl, ht, hb⟩ := hrel
    have hxb := (hb.block _ (lt_of HX.out.2.2.2.1)).trans HX.out.2.2.2.1
    obtain ⟨⟨b0, b1, b2, b3⟩, _⟩ := blk4 hxb
    have HB : Hid _ := And.intro ht hb
    obtain ⟨xa, xc, rfl, _⟩ := ht.len
    clear ht hb hxb b0 b1 b3
    by_cases hlt : k < n
    · obtain ⟨gg, rfl⟩ : ∃ gg, gk = gg + 1 := ⟨gk - 1, by omega⟩
      have hkl : k < B.sp.length := by rw [Hn.out]; exact hlt
      obtain ⟨g0, off, rfl, hg0, hat⟩ := tx_at HX.out.2.1 (by omega)
      have e0 : wr.cell? ⟨g0, off + k, none⟩ = some (.string (sB (B.sp[k]'hkl))) := (HB.out.2.cell (p := ⟨g0, off + k, none⟩) hg0).trans (hat k hkl)
      have hfs := fold_snoc (l := A.sp) hkl
      obtain ⟨x, hx⟩ : ∃ x, B.sp[k] = x := ⟨_, rfl⟩
      rw [hx] at e0 hfs
      have hlen := len_fold (B.sp.take k) A.sp
      rw [List.length_take] at hlen
      have hinc : Inc ((B.sp.take k).foldl rput A.sp) := inc_foldput HI.out
      have hq := put_any _ x _ wr HB.out.1 hinc (by omega)
      have HS : Hid _ := And.intro hfs hq
      clear hfs hq hx hat hlen hinc
      go_wp2_with fail
      refine Calls.mono HS.out.2 ?_
      rintro e w1 ⟨v1, rfl, ht1, hb1⟩
      have H1 : Hid _ := And.intro ht1 (HB.out.2.trans (hb1.mono HB.out.2.size))
      clear ht1 hb1
      go_wp2_with fail
      go_roundg gg
      case measure => omega
      case rel => exact ⟨k + 1, by omega, by go_num, by rw [HS.out.1]; exact H1.out.1, H1.out.2⟩
    · have htk : B.sp.take k = B.sp := List.take_of_length_le (by rw [Hn.out]; omega)
      have hxr := (HB.out.2.block _ (lt_of HX.out.2.2.2.2)).trans HX.out.2.2.2.2
      obtain ⟨⟨c0, c1, c2, c3⟩, f0, f1, f2, f3⟩ := blk4 hxr
      have HE : Hid _ := And.intro hxr (And.intro (HX.out.2.2.1.trans (HB.out.2.mono HX.out.2.2.1.size)) HB.out.1)
      have HTK : Hid _ := htk
      clear htk hxr
      go_wp2_with fail
      refine ret_r2 (X := w.heap.size + 1 + 1) Tryd.results18 rfl rfl ⟨_, set4_heap _ _ _ _ HE.out.1, rfl, ?_⟩
      have ht := set4_resR (.int .i64 3) (.string ⟨#[]⟩) (.slice xa ((B.sp.take k).foldl rput A.sp).length xc) (.int .i64 A.pr) HE.out.2.2 HE.out.1 (.inr rfl)
      rw [HTK.out] at ht ⊢
      exact ⟨_, rfl, ⟨_, rfl, ht⟩, set4_bel _ _ _ _ HE.out.2.1 (by omega)⟩
set_option maxRecDepth 8000 in
set_option maxHeartbeats 4000000 in
theorem runion_every (A B : Wd) (va vb : Value) (w : World) (ha : WdV w va A) (hb : WdV w vb B) (h : A.how = 1 ∨ B.how = 1) :
    Calls Tryd.prog 18 #[va, vb] w fun e w' => WbQ (runion A B) w e w' := by
  obtain ⟨sa, rfl, ha⟩ := ha
  obtain ⟨pa, ca, rfl, ha2⟩ := ha.len
  obtain ⟨sb, rfl, hb⟩ := hb
  obtain ⟨pb, cb, rfl, hb2⟩ := hb.len
  have ev : runion A B = (⟨1, [], [], A.pr⟩, true) := by unfold runion; rw [if_pos h]
  rw [ev]
  clear ha hb ev
  by_cases h1 : A.how = 1
  · clear h
    go_enter Tryd.func18, Tryd.ntmps18
    go_wp2_with fail
    refine ret_r2 (X := w.heap.size + 1 + 1) Tryd.results18 rfl rfl ⟨_, nw_at (sza2 _ _ _) _, rfl, ?_⟩
    exact ⟨_, rfl, ⟨_, rfl, TxR.nil _ _ _⟩, bel3 _ _ _ _⟩
  · have h2 : B.how = 1 := by omega
    have d1 : (A.how == 1) = false := by simpa using h1
    clear h
    go_enter Tryd.func18, Tryd.ntmps18
    go_wp2_with fail
    refine ret_r2 (X := w.heap.size + 1 + 1) Tryd.results18 rfl rfl ⟨_, nw_at (sza2 _ _ _) _, rfl, ?_⟩
    exact ⟨_, rfl, ⟨_, rfl, TxR.nil _ _ _⟩, bel3 _ _ _ _⟩
set_option maxRecDepth 8000 in
set_option maxHeartbeats 4000000 in
theorem runion_other (A B : Wd) (va vb : Value) (w : World) (ha : WdV w va A) (hb : WdV w vb B) (h3 : A.how = 2) (h4 : B.how = 2) :
    Calls Tryd.prog 18 #[va, vb] w fun e w' => WbQ (runion A B) w e w' := by
  obtain ⟨sa, rfl, ha⟩ := ha
  obtain ⟨pa, ca, rfl, ha2⟩ := ha.len
  obtain ⟨sb, rfl, hb⟩ := hb
  obtain ⟨pb, cb, rfl, hb2⟩ := hb.len
  have dA1 : (A.how == 1) = false := by rw [h3]; rfl
  have dA2 : (A.how == 2) = true := by rw [h3]; rfl
  have dA3 : (A.how == 3) = false := by rw [h3]; rfl
  have dB1 : (B.how == 1) = false := by rw [h4]; rfl
  have dB2 : (B.how == 2) = true := by rw [h4]; rfl
  have HA : Hid _ := ha
  by_cases hn : A.nt = B.nt
  · have ev : runion A B = (A, true) := by unfold runion; rw [if_neg (by omega), if_neg (by omega), if_pos ⟨h3, h4⟩, if_pos hn]
    rw [ev]
    have ee : ((sB A.nt).toList == (sB B.nt).toList) = true := by simp [hn]
    have HN : Hid _ := hn
    clear ha hb h3 h4 ev hn
    go_enter Tryd.func18, Tryd.ntmps18
    go_wp2_with fail
    all_goals first
      | (refine ret_r2 (X := w.heap.size + 1 + 1) Tryd.results18 rfl rfl ⟨_, nw_at (sza2 _ _ _) _, rfl, ?_⟩
         exact ⟨_, rfl, ⟨_, rfl, TxR.below HA.out (bel3 _ _ _ _)⟩, bel3 _ _ _ _⟩)
      | (exfalso; have := HN.out; simp_all [sBl_inj])
  · have ev : runion A B = (⟨2, [], [], A.pr⟩, true) := by unfold runion; rw [if_neg (by omega), if_neg (by omega), if_pos ⟨h3, h4⟩, if_neg hn]
    rw [ev]
    have ee : ((sB A.nt).toList == (sB B.nt).toList) = false := by simp [sBl_inj, hn]
    have HN : Hid _ := hn
    clear ha hb h3 h4 ev hn
    go_enter Tryd.func18, Tryd.ntmps18
    go_wp2_with fail
    all_goals first
      | (refine ret_r2 (X := w.heap.size + 1 + 1) Tryd.results18 rfl rfl ⟨_, nw_at (sza2 _ _ _) _, rfl, ?_⟩
         exact ⟨_, rfl, ⟨_, rfl, TxR.nil _ _ _⟩, bel3 _ _ _ _⟩)
      | (exfalso; have := HN.out; simp_all [sBl_inj])
end Go.Proofs.YtknfipcegmajaaaDoor
namespace Go.Proofs.YtknfipcegmajaaaDoor
open Go.RowKit
set_option linter.unusedVariables false
set_option linter.unusedSimpArgs false

set_option maxRecDepth 8000 in
set_option maxHeartbeats 8000000 in
theorem runion_mixA (A B : Wd) (va vb : Value) (w : World) (ha : WdV w va A) (hb : WdV w vb B) (h3 : A.how = 3) (h4 : B.how = 2) (la : A.sp.length < 1000) (lb : B.sp.length < 1000) :
    Calls Tryd.prog 18 #[va, vb] w fun e w' => WbQ (runion A B) w e w' := by
  obtain ⟨sa, rfl, ha⟩ := ha
  obtain ⟨pa, ca, rfl, ha2⟩ := ha.len
  obtain ⟨sb, rfl, hb⟩ := hb
  obtain ⟨pb, cb, rfl, hb2⟩ := hb.len
  have ev : runion A B = runionO B A A.pr := by unfold runion; rw [if_neg (by omega), if_neg (by omega), if_neg (by omega)]; rw [if_pos h3]
  rw [ev]
  have dA1 : (A.how == 1) = false := by rw [h3]; rfl
  have dA2 : (A.how == 2) = false := by rw [h3]; rfl
  have dA3 : (A.how == 3) = true := by rw [h3]; rfl
  have dB1 : (B.how == 1) = false := by rw [h4]; rfl
  have dB2 : (B.how == 2) = true := by rw [h4]; rfl
  have dB3 : (B.how == 3) = false := by rw [h4]; rfl
  have hb0 : Below w.heap.size w (((((w.alloc (.cells #[.int .i64 A.how, .string (sB A.nt), .slice pa A.sp.length ca, .int .i64 A.pr] 29)).alloc (.cells #[.int .i64 B.how, .string (sB B.nt), .slice pb B.sp.length cb, .int .i64 B.pr] 29)).alloc (.cells #[.int .i64 0, .string ⟨#[]⟩, .slice none 0 0, .int .i64 0] 29)).alloc (.cells #[.int .i64 B.how, .string (sB B.nt), .slice pb B.sp.length cb, .int .i64 B.pr] 29)).alloc (.cells #[.int .i64 A.how, .string (sB A.nt), .slice pa A.sp.length ca, .int .i64 A.pr] 29)) := ((bel3 _ _ _ _).alloc (by rw [sza, sza, sza]; omega) _).alloc (by rw [sza, sza, sza, sza]; omega) _
  have hxr : (((((w.alloc (.cells #[.int .i64 A.how, .string (sB A.nt), .slice pa A.sp.length ca, .int .i64 A.pr] 29)).alloc (.cells #[.int .i64 B.how, .string (sB B.nt), .slice pb B.sp.length cb, .int .i64 B.pr] 29)).alloc (.cells #[.int .i64 0, .string ⟨#[]⟩, .slice none 0 0, .int .i64 0] 29)).alloc (.cells #[.int .i64 B.how, .string (sB B.nt), .slice pb B.sp.length cb, .int .i64 B.pr] 29)).alloc (.cells #[.int .i64 A.how, .string (sB A.nt), .slice pa A.sp.length ca, .int .i64 A.pr] 29)).heap[w.heap.size + 1 + 1]? = some (.cells #[.int .i64 0, .string ⟨#[]⟩, .slice none 0 0, .int .i64 0] 29 (0, 0)) := nw_below (nw_below (nw_at (sza2 _ _ _) _))
  have hxo : (((((w.alloc (.cells #[.int .i64 A.how, .string (sB A.nt), .slice pa A.sp.length ca, .int .i64 A.pr] 29)).alloc (.cells #[.int .i64 B.how, .string (sB B.nt), .slice pb B.sp.length cb, .int .i64 B.pr] 29)).alloc (.cells #[.int .i64 0, .string ⟨#[]⟩, .slice none 0 0, .int .i64 0] 29)).alloc (.cells #[.int .i64 B.how, .string (sB B.nt), .slice pb B.sp.length cb, .int .i64 B.pr] 29)).alloc (.cells #[.int .i64 A.how, .string (sB A.nt), .slice pa A.sp.length ca, .int .i64 A.pr] 29)).heap[w.heap.size + 1 + 1 + 1]? = some (.cells #[.int .i64 B.how, .string (sB B.nt), .slice pb B.sp.length cb, .int .i64 B.pr] 29 (0, 0)) := nw_below (nw_at (by rw [sza, sza, sza]) _)
  have hxt : (((((w.alloc (.cells #[.int .i64 A.how, .string (sB A.nt), .slice pa A.sp.length ca, .int .i64 A.pr] 29)).alloc (.cells #[.int .i64 B.how, .string (sB B.nt), .slice pb B.sp.length cb, .int .i64 B.pr] 29)).alloc (.cells #[.int .i64 0, .string ⟨#[]⟩, .slice none 0 0, .int .i64 0] 29)).alloc (.cells #[.int .i64 B.how, .string (sB B.nt), .slice pb B.sp.length cb, .int .i64 B.pr] 29)).alloc (.cells #[.int .i64 A.how, .string (sB A.nt), .slice pa A.sp.length ca, .int .i64 A.pr] 29)).heap[w.heap.size + 1 + 1 + 1 + 1]? = some (.cells #[.int .i64 A.how, .string (sB A.nt), .slice pa A.sp.length ca, .int .i64 A.pr] 29 (0, 0)) := nw_at (by rw [sza, sza, sza, sza]) _
  have HX : Hid _ := And.intro (ha.below hb0) (And.intro hb0 (And.intro hxr (And.intro hxo hxt)))
  clear ha hb h3 h4 hb0 hxr hxo hxt ev
  have en := emp_dec B.nt
  obtain ⟨R, hR⟩ : ∃ R, runionO B A A.pr = R := ⟨_, rfl⟩
  rw [hR]
  have HR : Hid _ := hR
  clear hR
  go_enter Tryd.func18, Tryd.ntmps18
  go_upto_region 20 with fail
  generalize (((((w.alloc (.cells #[.int .i64 A.how, .string (sB A.nt), .slice pa A.sp.length ca, .int .i64 A.pr] 29)).alloc (.cells #[.int .i64 B.how, .string (sB B.nt), .slice pb B.sp.length cb, .int .i64 B.pr] 29)).alloc (.cells #[.int .i64 0, .string ⟨#[]⟩, .slice none 0 0, .int .i64 0] 29)).alloc (.cells #[.int .i64 B.how, .string (sB B.nt), .slice pb B.sp.length cb, .int .i64 B.pr] 29)).alloc (.cells #[.int .i64 A.how, .string (sB A.nt), .slice pa A.sp.length ca, .int .i64 A.pr] 29)) = U at HX ⊢
  obtain ⟨⟨o0, o1, o2, o3⟩, _⟩ := blk4 HX.out.2.2.2.1
  obtain ⟨⟨t0, t1, t2, t3⟩, _⟩ := blk4 HX.out.2.2.2.2
  have hq1 := rallows_p A [] (wdV A (.slice pa A.sp.length ca)) U ⟨_, rfl, HX.out.1⟩ (by omega)
  have HQ1 : Hid _ := hq1
  clear hq1
  go_wp2_with fail
  refine Calls.mono HQ1.out ?_
  rintro e w1 ⟨rfl, hb1⟩
  have hxo := (hb1.block _ (lt_of HX.out.2.2.2.1)).trans HX.out.2.2.2.1
  have hxt := (hb1.block _ (lt_of HX.out.2.2.2.2)).trans HX.out.2.2.2.2
  have hxr := (hb1.block _ (lt_of HX.out.2.2.1)).trans HX.out.2.2.1
  obtain ⟨⟨o0, o1, o2, o3⟩, _⟩ := blk4 hxo
  obtain ⟨⟨t0, t1, t2, t3⟩, _⟩ := blk4 hxt
  obtain ⟨⟨c0, c1, c2, c3⟩, f0, f1, f2, f3⟩ := blk4 hxr
  have hq2 := rallows_p A B.nt (wdV A (.slice pa A.sp.length ca)) w1 ⟨_, rfl, HX.out.1.below hb1⟩ (by omega)
  have HB1 : Hid _ := And.intro hb1 (And.intro hq2 (And.intro hxo hxr))
  clear hb1 hxo hxt hxr hq2
  obtain ⟨n1, hn1⟩ : ∃ n1, rallows A [] = n1 := ⟨_, rfl⟩
  rw [hn1]
  have HN1 : Hid _ := hn1
  clear hn1
  by_cases hnt : B.nt = []
  · have en' : (sB B.nt).toList.isEmpty = true := by rw [en]; exact decide_eq_true hnt
    have HNT : Hid _ := hnt
    clear en hnt
    cases n1
    · have er : runionO B A A.pr = (⟨2, [], [], A.pr⟩, true) := by unfold runionO; rw [HN1.out, HNT.out]; simp
      have hr := HR.out.symm.trans er
      subst hr
      go_wp2_with fail
      refine ret_r2 (X := w.heap.size + 1 + 1) Tryd.results18 rfl rfl ⟨_, set4_heap _ _ _ _ HB1.out.2.2.2, rfl, ?_⟩
      exact ⟨_, rfl, ⟨_, rfl, TxR.nil _ _ _⟩, set4_bel _ _ _ _ (HX.out.2.1.trans (HB1.out.1.mono HX.out.2.1.size)) (by omega)⟩
    · have er : runionO B A A.pr = (⟨1, [], [], A.pr⟩, true) := by unfold runionO; rw [HN1.out, HNT.out]; simp
      have hr := HR.out.symm.trans er
      subst hr
      go_wp2_with fail
      refine ret_r2 (X := w.heap.size + 1 + 1) Tryd.results18 rfl rfl ⟨_, set4_heap _ _ _ _ HB1.out.2.2.2, rfl, ?_⟩
      exact ⟨_, rfl, ⟨_, rfl, TxR.nil _ _ _⟩, set4_bel _ _ _ _ (HX.out.2.1.trans (HB1.out.1.mono HX.out.2.1.size)) (by omega)⟩
  · have en' : (sB B.nt).toList.isEmpty = false := by rw [en]; exact decide_eq_false hnt
    have HNT : Hid _ := hnt
    clear en hnt
    go_wp2_with fail
    refine Calls.mono HB1.out.2.1 ?_
    rintro e w2 ⟨rfl, hb2'⟩
    have hxo := (hb2'.block _ (lt_of HB1.out.2.2.1)).trans HB1.out.2.2.1
    have hxr := (hb2'.block _ (lt_of HB1.out.2.2.2)).trans HB1.out.2.2.2
    clear c0 c1 c2 c3 f0 f1 f2 f3 o0 o1 o2 o3 t0 t1 t2 t3
    obtain ⟨⟨o0, o1, o2, o3⟩, _⟩ := blk4 hxo
    obtain ⟨⟨c0, c1, c2, c3⟩, f0, f1, f2, f3⟩ := blk4 hxr
    have H2 : Hid _ := And.intro hxr (HX.out.2.1.trans ((HB1.out.1.trans (hb2'.mono HB1.out.1.size)).mono HX.out.2.1.size))
    clear hxo hxr hb2'
    obtain ⟨n2, hn2⟩ : ∃ n2, rallows A B.nt = n2 := ⟨_, rfl⟩
    rw [hn2]
    have HN2 : Hid _ := hn2
    clear hn2
    cases n1 <;> cases n2
    · have er : runionO B A A.pr = (⟨2, B.nt, [], A.pr⟩, true) := by unfold runionO; rw [HN1.out, HN2.out]; simp [HNT.out]
      have hr := HR.out.symm.trans er
      subst hr
      go_wp2_with fail
      refine ret_r2 (X := w.heap.size + 1 + 1) Tryd.results18 rfl rfl ⟨_, set4_heap _ _ _ _ H2.out.1, rfl, ?_⟩
      exact ⟨_, rfl, ⟨_, rfl, TxR.nil _ _ _⟩, set4_bel _ _ _ _ H2.out.2 (by omega)⟩
    · have er : runionO B A A.pr = (⟨2, [], [], A.pr⟩, true) := by unfold runionO; rw [HN1.out, HN2.out]; simp
      have hr := HR.out.symm.trans er
      subst hr
      go_wp2_with fail
      refine ret_r2 (X := w.heap.size + 1 + 1) Tryd.results18 rfl rfl ⟨_, set4_heap _ _ _ _ H2.out.1, rfl, ?_⟩
      exact ⟨_, rfl, ⟨_, rfl, TxR.nil _ _ _⟩, set4_bel _ _ _ _ H2.out.2 (by omega)⟩
    · have er : runionO B A A.pr = (Wd.zero, false) := by unfold runionO; rw [HN1.out, HN2.out]; simp; exact HNT.out
      have hr := HR.out.symm.trans er
      subst hr
      go_wp2_with fail
      refine ret_r2 (X := w.heap.size + 1 + 1) Tryd.results18 rfl rfl ⟨_, set4_heap _ _ _ _ H2.out.1, rfl, ?_⟩
      exact ⟨_, rfl, ⟨_, rfl, TxR.nil _ _ _⟩, set4_bel _ _ _ _ H2.out.2 (by omega)⟩
    · have er : runionO B A A.pr = (⟨1, [], [], A.pr⟩, true) := by unfold runionO; rw [HN1.out, HN2.out]; simp
      have hr := HR.out.symm.trans er
      subst hr
      go_wp2_with fail
      refine ret_r2 (X := w.heap.size + 1 + 1) Tryd.results18 rfl rfl ⟨_, set4_heap _ _ _ _ H2.out.1, rfl, ?_⟩
      exact ⟨_, rfl, ⟨_, rfl, TxR.nil _ _ _⟩, set4_bel _ _ _ _ H2.out.2 (by omega)⟩
set_option maxRecDepth 8000 in
set_option maxHeartbeats 8000000 in
theorem runion_mixB (A B : Wd) (va vb : Value) (w : World) (ha : WdV w va A) (hb : WdV w vb B) (h3 : A.how = 2) (h4 : B.how = 3) (la : A.sp.length < 1000) (lb : B.sp.length < 1000) :
    Calls Tryd.prog 18 #[va, vb] w fun e w' => WbQ (runion A B) w e w' := by
  obtain ⟨sa, rfl, ha⟩ := ha
  obtain ⟨pa, ca, rfl, ha2⟩ := ha.len
  obtain ⟨sb, rfl, hb⟩ := hb
  obtain ⟨pb, cb, rfl, hb2⟩ := hb.len
  have ev : runion A B = runionO A B A.pr := by unfold runion; rw [if_neg (by omega), if_neg (by omega), if_neg (by omega)]; rw [if_neg (by omega)]
  rw [ev]
  have dA1 : (A.how == 1) = false := by rw [h3]; rfl
  have dA2 : (A.how == 2) = true := by rw [h3]; rfl
  have dA3 : (A.how == 3) = false := by rw [h3]; rfl
  have dB1 : (B.how == 1) = false := by rw [h4]; rfl
  have dB2 : (B.how == 2) = false := by rw [h4]; rfl
  have dB3 : (B.how == 3) = true := by rw [h4]; rfl
  have hb0 : Below w.heap.size w (((((w.alloc (.cells #[.int .i64 A.how, .string (sB A.nt), .slice pa A.sp.length ca, .int .i64 A.pr] 29)).alloc (.cells #[.int .i64 B.how, .string (sB B.nt), .slice pb B.sp.length cb, .int .i64 B.pr] 29)).alloc (.cells #[.int .i64 0, .string ⟨#[]⟩, .slice none 0 0, .int .i64 0] 29)).alloc (.cells #[.int .i64 A.how, .string (sB A.nt), .slice pa A.sp.length ca, .int .i64 A.pr] 29)).alloc (.cells #[.int .i64 B.how, .string (sB B.nt), .slice pb B.sp.length cb, .int .i64 B.pr] 29)) := ((bel3 _ _ _ _).alloc (by rw [sza, sza, sza]; omega) _).alloc (by rw [sza, sza, sza, sza]; omega) _
  have hxr : (((((w.alloc (.cells #[.int .i64 A.how, .string (sB A.nt), .slice pa A.sp.length ca, .int .i64 A.pr] 29)).alloc (.cells #[.int .i64 B.how, .string (sB B.nt), .slice pb B.sp.length cb, .int .i64 B.pr] 29)).alloc (.cells #[.int .i64 0, .string ⟨#[]⟩, .slice none 0 0, .int .i64 0] 29)).alloc (.cells #[.int .i64 A.how, .string (sB A.nt), .slice pa A.sp.length ca, .int .i64 A.pr] 29)).alloc (.cells #[.int .i64 B.how, .string (sB B.nt), .slice pb B.sp.length cb, .int .i64 B.pr] 29)).heap[w.heap.size + 1 + 1]? = some (.cells #[.int .i64 0, .string ⟨#[]⟩, .slice none 0 0, .int .i64 0] 29 (0, 0)) := nw_below (nw_below (nw_at (sza2 _ _ _) _))
  have hxo : (((((w.alloc (.cells #[.int .i64 A.how, .string (sB A.nt), .slice pa A.sp.length ca, .int .i64 A.pr] 29)).alloc (.cells #[.int .i64 B.how, .string (sB B.nt), .slice pb B.sp.length cb, .int .i64 B.pr] 29)).alloc (.cells #[.int .i64 0, .string ⟨#[]⟩, .slice none 0 0, .int .i64 0] 29)).alloc (.cells #[.int .i64 A.how, .string (sB A.nt), .slice pa A.sp.length ca, .int .i64 A.pr] 29)).alloc (.cells #[.int .i64 B.how, .string (sB B.nt), .slice pb B.sp.length cb, .int .i64 B.pr] 29)).heap[w.heap.size + 1 + 1 + 1]? = some (.cells #[.int .i64 A.how, .string (sB A.nt), .slice pa A.sp.length ca, .int .i64 A.pr] 29 (0, 0)) := nw_below (nw_at (by rw [sza, sza, sza]) _)
  have hxt : (((((w.alloc (.cells #[.int .i64 A.how, .string (sB A.nt), .slice pa A.sp.length ca, .int .i64 A.pr] 29)).alloc (.cells #[.int .i64 B.how, .string (sB B.nt), .slice pb B.sp.length cb, .int .i64 B.pr] 29)).alloc (.cells #[.int .i64 0, .string ⟨#[]⟩, .slice none 0 0, .int .i64 0] 29)).alloc (.cells #[.int .i64 A.how, .string (sB A.nt), .slice pa A.sp.length ca, .int .i64 A.pr] 29)).alloc (.cells #[.int .i64 B.how, .string (sB B.nt), .slice pb B.sp.length cb, .int .i64 B.pr] 29)).heap[w.heap.size + 1 + 1 + 1 + 1]? = some (.cells #[.int .i64 B.how, .string (sB B.nt), .slice pb B.sp.length cb, .int .i64 B.pr] 29 (0, 0)) := nw_at (by rw [sza, sza, sza, sza]) _
  have HX : Hid _ := And.intro (hb.below hb0) (And.intro hb0 (And.intro hxr (And.intro hxo hxt)))
  clear ha hb h3 h4 hb0 hxr hxo hxt ev
  have en := emp_dec A.nt
  obtain ⟨R, hR⟩ : ∃ R, runionO A B A.pr = R := ⟨_, rfl⟩
  rw [hR]
  have HR : Hid _ := hR
  clear hR
  go_enter Tryd.func18, Tryd.ntmps18
  go_upto_region 20 with fail
  generalize (((((w.alloc (.cells #[.int .i64 A.how, .string (sB A.nt), .slice pa A.sp.length ca, .int .i64 A.pr] 29)).alloc (.cells #[.int .i64 B.how, .string (sB B.nt), .slice pb B.sp.length cb, .int .i64 B.pr] 29)).alloc (.cells #[.int .i64 0, .string ⟨#[]⟩, .slice none 0 0, .int .i64 0] 29)).alloc (.cells #[.int .i64 A.how, .string (sB A.nt), .slice pa A.sp.length ca, .int .i64 A.pr] 29)).alloc (.cells #[.int .i64 B.how, .string (sB B.nt), .slice pb B.sp.length cb, .int .i64 B.pr] 29)) = U at HX ⊢
  obtain ⟨⟨o0, o1, o2, o3⟩, _⟩ := blk4 HX.out.2.2.2.1
  obtain ⟨⟨t0, t1, t2, t3⟩, _⟩ := blk4 HX.out.2.2.2.2
  have hq1 := rallows_p B [] (wdV B (.slice pb B.sp.length cb)) U ⟨_, rfl, HX.out.1⟩ (by omega)
  have HQ1 : Hid _ := hq1
  clear hq1
  go_wp2_with fail
  refine Calls.mono HQ1.out ?_
  rintro e w1 ⟨rfl, hb1⟩
  have hxo := (hb1.block _ (lt_of HX.out.2.2.2.1)).trans HX.out.2.2.2.1
  have hxt := (hb1.block _ (lt_of HX.out.2.2.2.2)).trans HX.out.2.2.2.2
  have hxr := (hb1.block _ (lt_of HX.out.2.2.1)).trans HX.out.2.2.1
  obtain ⟨⟨o0, o1, o2, o3⟩, _⟩ := blk4 hxo
  obtain ⟨⟨t0, t1, t2, t3⟩, _⟩ := blk4 hxt
  obtain ⟨⟨c0, c1, c2, c3⟩, f0, f1, f2, f3⟩ := blk4 hxr
  have hq2 := rallows_p B A.nt (wdV B (.slice pb B.sp.length cb)) w1 ⟨_, rfl, HX.out.1.below hb1⟩ (by omega)
  have HB1 : Hid _ := And.intro hb1 (And.intro hq2 (And.intro hxo hxr))
  clear hb1 hxo hxt hxr hq2
  obtain ⟨n1, hn1⟩ : ∃ n1, rallows B [] = n1 := ⟨_, rfl⟩
  rw [hn1]
  have HN1 : Hid _ := hn1
  clear hn1
  by_cases hnt : A.nt = []
  · have en' : (sB A.nt).toList.isEmpty = true := by rw [en]; exact decide_eq_true hnt
    have HNT : Hid _ := hnt
    clear en hnt
    cases n1
    · have er : runionO A B A.pr = (⟨2, [], [], A.pr⟩, true) := by unfold runionO; rw [HN1.out, HNT.out]; simp
      have hr := HR.out.symm.trans er
      subst hr
      go_wp2_with fail
      refine ret_r2 (X := w.heap.size + 1 + 1) Tryd.results18 rfl rfl ⟨_, set4_heap _ _ _ _ HB1.out.2.2.2, rfl, ?_⟩
      exact ⟨_, rfl, ⟨_, rfl, TxR.nil _ _ _⟩, set4_bel _ _ _ _ (HX.out.2.1.trans (HB1.out.1.mono HX.out.2.1.size)) (by omega)⟩
    · have er : runionO A B A.pr = (⟨1, [], [], A.pr⟩, true) := by unfold runionO; rw [HN1.out, HNT.out]; simp
      have hr := HR.out.symm.trans er
      subst hr
      go_wp2_with fail
      refine ret_r2 (X := w.heap.size + 1 + 1) Tryd.results18 rfl rfl ⟨_, set4_heap _ _ _ _ HB1.out.2.2.2, rfl, ?_⟩
      exact ⟨_, rfl, ⟨_, rfl, TxR.nil _ _ _⟩, set4_bel _ _ _ _ (HX.out.2.1.trans (HB1.out.1.mono HX.out.2.1.size)) (by omega)⟩
  · have en' : (sB A.nt).toList.isEmpty = false := by rw [en]; exact decide_eq_false hnt
    have HNT : Hid _ := hnt
    clear en hnt
    go_wp2_with fail
    refine Calls.mono HB1.out.2.1 ?_
    rintro e w2 ⟨rfl, hb2'⟩
    have hxo := (hb2'.block _ (lt_of HB1.out.2.2.1)).trans HB1.out.2.2.1
    have hxr := (hb2'.block _ (lt_of HB1.out.2.2.2)).trans HB1.out.2.2.2
    clear c0 c1 c2 c3 f0 f1 f2 f3 o0 o1 o2 o3 t0 t1 t2 t3
    obtain ⟨⟨o0, o1, o2, o3⟩, _⟩ := blk4 hxo
    obtain ⟨⟨c0, c1, c2, c3⟩, f0, f1, f2, f3⟩ := blk4 hxr
    have H2 : Hid _ := And.intro hxr (HX.out.2.1.trans ((HB1.out.1.trans (hb2'.mono HB1.out.1.size)).mono HX.out.2.1.size))
    clear hxo hxr hb2'
    obtain ⟨n2, hn2⟩ : ∃ n2, rallows B A.nt = n2 := ⟨_, rfl⟩
    rw [hn2]
    have HN2 : Hid _ := hn2
    clear hn2
    cases n1 <;> cases n2
    · have er : runionO A B A.pr = (⟨2, A.nt, [], A.pr⟩, true) := by unfold runionO; rw [HN1.out, HN2.out]; simp [HNT.out]
      have hr := HR.out.symm.trans er
      subst hr
      go_wp2_with fail
      refine ret_r2 (X := w.heap.size + 1 + 1) Tryd.results18 rfl rfl ⟨_, set4_heap _ _ _ _ H2.out.1, rfl, ?_⟩
      exact ⟨_, rfl, ⟨_, rfl, TxR.nil _ _ _⟩, set4_bel _ _ _ _ H2.out.2 (by omega)⟩
    · have er : runionO A B A.pr = (⟨2, [], [], A.pr⟩, true) := by unfold runionO; rw [HN1.out, HN2.out]; simp
      have hr := HR.out.symm.trans er
      subst hr
      go_wp2_with fail
      refine ret_r2 (X := w.heap.size + 1 + 1) Tryd.results18 rfl rfl ⟨_, set4_heap _ _ _ _ H2.out.1, rfl, ?_⟩
      exact ⟨_, rfl, ⟨_, rfl, TxR.nil _ _ _⟩, set4_bel _ _ _ _ H2.out.2 (by omega)⟩
    · have er : runionO A B A.pr = (Wd.zero, false) := by unfold runionO; rw [HN1.out, HN2.out]; simp; exact HNT.out
      have hr := HR.out.symm.trans er
      subst hr
      go_wp2_with fail
      refine ret_r2 (X := w.heap.size + 1 + 1) Tryd.results18 rfl rfl ⟨_, set4_heap _ _ _ _ H2.out.1, rfl, ?_⟩
      exact ⟨_, rfl, ⟨_, rfl, TxR.nil _ _ _⟩, set4_bel _ _ _ _ H2.out.2 (by omega)⟩
    · have er : runionO A B A.pr = (⟨1, [], [], A.pr⟩, true) := by unfold runionO; rw [HN1.out, HN2.out]; simp
      have hr := HR.out.symm.trans er
      subst hr
      go_wp2_with fail
      refine ret_r2 (X := w.heap.size + 1 + 1) Tryd.results18 rfl rfl ⟨_, set4_heap _ _ _ _ H2.out.1, rfl, ?_⟩
      exact ⟨_, rfl, ⟨_, rfl, TxR.nil _ _ _⟩, set4_bel _ _ _ _ H2.out.2 (by omega)⟩
theorem runion_p (A B : Wd) (va vb : Value) (w : World) (ha : WdV w va A) (hb : WdV w vb B) (wa : Wr A) (wb : Wr B) (la : A.sp.length < 1000) (lb : B.sp.length < 1000) :
    Calls Tryd.prog 18 #[va, vb] w fun e w' => WbQ (runion A B) w e w' := by
  have h1 := wa.how
  have h2 := wb.how
  by_cases h : A.how = 1 ∨ B.how = 1
  · exact runion_every A B va vb w ha hb h
  · by_cases h3 : A.how = 3
    · by_cases h4 : B.how = 3
      · exact runion_these A B va vb w ha hb wa.inc h3 h4 la lb
      · exact runion_mixA A B va vb w ha hb h3 (by omega) la lb
    · by_cases h4 : B.how = 3
      · exact runion_mixB A B va vb w ha hb (by omega) h4 la lb
      · exact runion_other A B va vb w ha hb (by omega) (by omega)
end Go.Proofs.YtknfipcegmajaaaDoor
namespace Go.Proofs.YtknfipcegmajaaaDoor
open Go.RowKit
set_option linter.unusedVariables false
set_option linter.unusedSimpArgs false

theorem rwords_p (x : Tx) (w : World) (hs : x.length ≤ 4000) : Calls Tryd.prog 29 #[eS x] w fun e w' => ∃ v, e = .returned v ∧ TxL w' v (wds x) ∧ Below w.heap.size w w' := by
  have hz : (sB x).size ≤ 100000 := by rw [sB_size]; omega
  refine (Ch.rwords_any (sB x) w hz).mono ?_
  rintro e w' ⟨a, cap, rfl, h1, h2⟩
  exact ⟨_, rfl, sts_txl h1, h2⟩
theorem ext_list (y : Tx) : ((sB y).extract 0 2).toList = y.take 2 := by
  rw [Lib.toList_data]
  simp [sB]
abbrev zR : Obj := .cells #[.int .i64 0, .string ⟨#[]⟩, .slice none 0 0, .int .i64 0] 29
set_option maxRecDepth 8000 in
set_option maxHeartbeats 2000000 in
theorem rparse_p (x t p : Tx) (w : World) (hs : x.length ≤ 4000) : Calls Tryd.prog 9 #[eS x, eS t, eS p] w fun e w' => PrQ (parseS (wds x) t p) w e w' := by
  have hxr := nw_heap w zR
  have hb0 := bel1 w zR
  have hpr := rprocess_p p
  have hbd := prS_bd p
  have hle := wds_len x
  have hwp := rwords_p x
  obtain ⟨R, hR⟩ : ∃ R, parseS (wds x) t p = R := ⟨_, rfl⟩
  obtain ⟨pr, hq⟩ : ∃ q, prS p = q := ⟨_, rfl⟩
  obtain ⟨ws, hws⟩ : ∃ l, wds x = l := ⟨_, rfl⟩
  rw [hR]
  rw [hws] at hR hle hwp
  rw [hq] at hpr hbd
  have HR : Hid _ := And.intro hR hq
  have HP : Hid _ := And.intro hpr hwp
  have HX : Hid _ := And.intro hxr hb0
  clear hR hq hpr hwp hxr hb0 hws
  by_cases h0 : pr = 0
  · subst h0
    have hr : R = (Wd.zero, 2) := by rw [← HR.out.1]; unfold parseS; rw [if_pos (.inr HR.out.2)]
    subst hr
    go_enter Tryd.func9, Tryd.ntmps9
    go_wp2_with (go_at_call 28; refine Calls.mono (HP.out.1 _) ?_; rintro e w3 ⟨rfl, rfl⟩)
    refine ret_r2 (X := _) Tryd.results9 rfl rfl ⟨_, nw_heap _ _, rfl, ?_⟩
    exact ⟨_, rfl, ⟨_, rfl, TxR.nil _ _ _⟩, bel1 _ _⟩
  have d0 : (pr == 0) = false := by simpa using h0
  have hR' : R = if (parS ws t).2 = false then (Wd.zero, 2) else ({ (parS ws t).1 with pr := pr }, 0) := by
    rw [← HR.out.1]
    unfold parseS
    rw [HR.out.2]
    by_cases q : (parS ws t).2 = false
    · rw [if_pos (.inl q), if_pos q]
    · rw [if_neg (by rintro (k | k); exact q k; exact h0 k), if_neg q]
  have HRR : Hid _ := hR'
  clear hR' h0
  go_enter Tryd.func9, Tryd.ntmps9
  go_upto_region 4 with (go_at_call 28; refine Calls.mono (HP.out.1 _) ?_; rintro e w3 ⟨rfl, rfl⟩)
  generalize hUw : (World.alloc _ zR) = U at HX ⊢
  clear hUw
  go_wp2_with fail
  refine Calls.mono (HP.out.2 U hs) ?_
  rintro e W1 ⟨v1, rfl, ht1, hb1⟩
  have hx1 := (hb1.block _ (lt_of HX.out.1)).trans HX.out.1
  obtain ⟨⟨c0, c1, c2, c3⟩, f0, f1, f2, f3⟩ := blk4 hx1
  have H1 : Hid _ := And.intro hx1 (HX.out.2.trans (hb1.mono HX.out.2.size))
  obtain ⟨a, c, rfl⟩ := ht1.len
  clear hx1 hb1
  by_cases w0 : ws = []
  · have hr : R = (⟨1, [], [], pr⟩, 0) := by rw [HRR.out, w0]; rfl
    subst hr
    subst w0
    clear ht1
    go_wp2_with fail
    refine ret_r2 (X := w.heap.size) Tryd.results9 rfl rfl ⟨_, set4_heap _ _ _ _ H1.out.1, rfl, ?_⟩
    exact ⟨_, rfl, ⟨_, rfl, TxR.nil _ _ _⟩, set4_bel _ _ _ _ H1.out.2 (Nat.le_refl _)⟩
  have hp := List.length_pos_iff.2 w0
  obtain ⟨g, off, rfl, hg, hat⟩ := txl_at ht1 hp
  obtain ⟨y0, hy0⟩ : ∃ y, ws[0]? = some y := ⟨_, List.getElem?_eq_getElem hp⟩
  have hat' : ∀ j y, ws[j]? = some y → W1.cell? ⟨g, off + j, none⟩ = some (.string (sB y)) := fun j y hy => by
    obtain ⟨hj, rfl⟩ := List.getElem?_eq_some_iff.1 hy
    exact hat j hj
  have e0 := hat' 0 y0 hy0
  rw [Nat.add_zero] at e0
  have hl0 := sB_list y0
  have one : ws.length = 1 → ws = [y0] := fun q => by
    match ws, q, hy0 with
    | [z], _, h => simp at h; rw [h]
  clear ht1 hat
  by_cases w1 : ws = [tAny]
  · have hr : R = (⟨1, [], [], pr⟩, 0) := by rw [HRR.out, w1]; rfl
    have hy : y0 = tAny := by rw [w1] at hy0; simpa using hy0.symm
    have dd : ((sB y0).toList == [35, 35, 97, 110, 121]) = true := by rw [hl0, hy]; rfl
    have hn : ws.length = 1 := by rw [w1]; rfl
    have HD : Hid _ := hn
    subst hr
    clear w1 w0 hy hl0 hy0 one hat'
    generalize sB y0 = M at e0 dd
    generalize ws.length = n at hn hp HD hle ⊢
    subst hn
    go_wp2_with fail
    all_goals first
      | (refine ret_r2 (X := w.heap.size) Tryd.results9 rfl rfl ⟨_, set4_heap _ _ _ _ H1.out.1, rfl, ?_⟩
         exact ⟨_, rfl, ⟨_, rfl, TxR.nil _ _ _⟩, set4_bel _ _ _ _ H1.out.2 (Nat.le_refl _)⟩)
      | (exfalso; simp_all)
  by_cases w2 : ws = [tOther]
  · have hr : R = (⟨2, t, [], pr⟩, 0) := by rw [HRR.out, w2]; rfl
    have hy : y0 = tOther := by rw [w2] at hy0; simpa using hy0.symm
    have dd : ((sB y0).toList == [35, 35, 97, 110, 121]) = false := by rw [hl0, hy]; rfl
    have de : ((sB y0).toList == [35, 35, 111, 116, 104, 101, 114]) = true := by rw [hl0, hy]; rfl
    have hn : ws.length = 1 := by rw [w2]; rfl
    subst hr
    clear w1 w2 w0 hy hl0 hy0 one hat'
    generalize sB y0 = M at e0 dd de
    generalize ws.length = n at hn hp hle ⊢
    subst hn
    go_wp2_with fail
    all_goals first
      | (refine ret_r2 (X := w.heap.size) Tryd.results9 rfl rfl ⟨_, set4_heap _ _ _ _ H1.out.1, rfl, ?_⟩
         exact ⟨_, rfl, ⟨_, rfl, TxR.nil _ _ _⟩, set4_bel _ _ _ _ H1.out.2 (Nat.le_refl _)⟩)
      | (exfalso; simp_all)
  have k1 : ws.length = 1 → ((sB y0).toList == [35, 35, 97, 110, 121]) = false := fun q => by
    have h := one q
    rw [hl0]
    have : ¬ y0 = tAny := fun e => w1 (by rw [h, e])
    simp; exact this
  have k2 : ws.length = 1 → ((sB y0).toList == [35, 35, 111, 116, 104, 101, 114]) = false := fun q => by
    have h := one q
    rw [hl0]
    have : ¬ y0 = tOther := fun e => w2 (by rw [h, e])
    simp; exact this
  have HN : Hid (¬ (ws = [] ∨ ws = [tAny]) ∧ ¬ ws = [tOther]) := ⟨by rintro (q | q); exact w0 q; exact w1 q, w2⟩
  have HPA : Hid (parS ws t = parS ws t) := rfl
  have HX2 : Hid _ := hat'
  clear w0 w1 w2 hl0 one hy0 hat'
  generalize sB y0 = N0 at e0 k1 k2
  generalize hnn : ws.length = n at hp hle k1 k2 ⊢
  have Hn : Hid (ws.length = n) := hnn
  clear hnn
  have hp0 : ((n : Int) == 0) = false := by simp; omega
  by_cases hn1 : n = 1
  · have k1' := k1 hn1
    have k2' := k2 hn1
    have d1 : ((n : Int) == 1) = true := by rw [hn1]; rfl
    clear k1 k2 hn1
    go_wp2_with fail
    go_loopg [10, 11] n (fun gg v10 v11 wr => ∃ k : Nat, k + gg = n ∧ v11 = .int .i64 (k : Int) ∧ TxR wr v10 (((ws.take k).map (spV1 t)).foldl rput []) ∧ (ws.take k).all (okB t) = true ∧ Below W1.heap.size W1 wr)
    case atStart => exact ⟨0, by omega, rfl, TxR.nil _ _ _, rfl, Below.refl _ _⟩
    case round =>
      obtain ⟨k, hk, rfl, htx, hall, hb⟩ := hrel
      have hxr := (hb.block _ (lt_of H1.out.1)).trans H1.out.1
      obtain ⟨⟨c0, c1, c2, c3⟩, f0, f1, f2, f3⟩ := blk4 hxr
      have HB : Hid _ := And.intro htx (And.intro hall (And.intro hb hxr))
      obtain ⟨ya, yc, rfl, _⟩ := htx.len
      clear htx hall hb hxr
      have hlen := len_fold ((ws.take k).map (spV1 t)) []
      rw [List.length_map, List.length_take, List.length_nil, Nat.zero_add] at hlen
      have hinc : Inc (((ws.take k).map (spV1 t)).foldl rput []) := inc_foldput inc_nil
      obtain ⟨P, hP⟩ : ∃ P, ((ws.take k).map (spV1 t)).foldl rput [] = P := ⟨_, rfl⟩
      rw [hP] at HB hlen hinc ⊢
      have HPP : Hid _ := And.intro hP hinc
      clear hP hinc
      have hlen2 : P.length ≤ k := by omega
      clear hlen
      by_cases hlt : k < n
      · obtain ⟨gg, rfl⟩ : ∃ gg, gk = gg + 1 := ⟨gk - 1, by omega⟩
        have hkl : k < ws.length := by rw [Hn.out]; exact hlt
        have e0 : wr.cell? ⟨g, off + k, none⟩ = some (.string (sB ws[k])) := (HB.out.2.2.1.cell (p := ⟨g, off + k, none⟩) hg).trans (HX2.out k ws[k] (by simp [hkl]))
        have hts := take_snoc hkl
        have hal := all_snoc hkl (okB t)
        rw [HB.out.2.1] at hal
        have hmem := List.getElem_mem hkl
        obtain ⟨y, hy⟩ : ∃ y, ws[k] = y := ⟨_, rfl⟩
        rw [hy] at e0 hts hal hmem
        have hfold : ((ws.take (k + 1)).map (spV1 t)).foldl rput [] = rput P (spV1 t y) := by
          rw [hts, List.map_append, List.foldl_append, HPP.out.1]; rfl
        have hpu := fun z => put_any P z (.slice ya P.length yc) wr HB.out.1 HPP.out.2 (by omega)
        have HS : Hid _ := And.intro hfold (And.intro hal (And.intro hmem hpu))
        clear hts hal hmem hy hfold hpu
        have hl := sB_list y
        by_cases y1 : y = tTarget
        · have e1 : spV1 t y = t := by unfold spV1; rw [if_pos y1]
          have e2 : okB t y = true := by unfold okB; rw [if_pos y1]
          have dd : ((sB y).toList == [35, 35, 116, 97, 114, 103, 101, 116, 78, 97, 109, 101, 115, 112, 97, 99, 101]) = true := by rw [hl, y1]; rfl
          have HE : Hid _ := And.intro e1 e2
          clear e1 e2 y1 hl
          generalize sB y = M at e0 dd
          go_wp2_with fail
          all_goals first
            | (go_at_call 30; refine Calls.mono (HS.out.2.2.2 t) ?_
               rintro e w5 ⟨v5, rfl, ht5, hb5⟩
               have H5 : Hid _ := And.intro ht5 (HB.out.2.2.1.trans (hb5.mono HB.out.2.2.1.size))
               clear ht5 hb5
               go_wp2_with fail
               go_roundg gg
               case measure => omega
               case rel => exact ⟨k + 1, by omega, by go_num, by rw [HS.out.1, HE.out.1]; exact H5.out.1, by rw [HS.out.2.1, HE.out.2]; rfl, H5.out.2⟩)
            | (exfalso; simp_all)
        by_cases y2 : y = tLocal
        · have e1 : spV1 t y = [] := by unfold spV1; rw [if_neg y1, if_pos y2]
          have e2 : okB t y = true := by unfold okB; rw [if_neg y1, if_pos y2]
          have dd : ((sB y).toList == [35, 35, 116, 97, 114, 103, 101, 116, 78, 97, 109, 101, 115, 112, 97, 99, 101]) = false := by rw [hl, y2]; rfl
          have de : ((sB y).toList == [35, 35, 108, 111, 99, 97, 108]) = true := by rw [hl, y2]; rfl
          have HE : Hid _ := And.intro e1 e2
          clear e1 e2 y1 y2 hl
          generalize sB y = M at e0 dd de
          go_wp2_with fail
          all_goals first
            | (go_at_call 30; refine Calls.mono (HS.out.2.2.2 []) ?_
               rintro e w5 ⟨v5, rfl, ht5, hb5⟩
               have H5 : Hid _ := And.intro ht5 (HB.out.2.2.1.trans (hb5.mono HB.out.2.2.1.size))
               clear ht5 hb5
               go_wp2_with fail
               go_roundg gg
               case measure => omega
               case rel => exact ⟨k + 1, by omega, by go_num, by rw [HS.out.1, HE.out.1]; exact H5.out.1, by rw [HS.out.2.1, HE.out.2]; rfl, H5.out.2⟩)
            | (exfalso; simp_all)
        have dd : ((sB y).toList == [35, 35, 116, 97, 114, 103, 101, 116, 78, 97, 109, 101, 115, 112, 97, 99, 101]) = false := by rw [hl]; simp; exact y1
        have de : ((sB y).toList == [35, 35, 108, 111, 99, 97, 108]) = false := by rw [hl]; simp; exact y2
        have hsz := sB_size y
        have hex := ext_list y
        by_cases y3 : hsB y = true
        · have hh := y3
          rw [hs_take, Bool.and_eq_true, decide_eq_true_eq, decide_eq_true_eq] at hh
          have e2 : okB t y = false := by unfold okB; rw [if_neg y1, if_neg y2, y3]; rfl
          have d5 : decide ((sB y).size ≥ 2) = true := by rw [hsz]; exact decide_eq_true hh.1
          have d6 : (((sB y).extract 0 2).toList == [35, 35]) = true := by rw [hex, hh.2]; rfl
          have hsz2 : 2 ≤ (sB y).size := by rw [hsz]; exact hh.1
          have hps : parS ws t = (Wd.zero, false) := by
            unfold parS
            rw [if_neg HN.out.1, if_neg HN.out.2, if_neg (fun q => by have := List.all_eq_true.1 q y HS.out.2.2.1; rw [e2] at this; cases this)]
          have hr : R = (Wd.zero, 2) := by rw [HRR.out, hps]; rfl
          clear hps
          subst hr
          clear e2 y1 y2 y3 hl hh hex hsz
          generalize sB y = M at e0 dd de d5 d6 hsz2
          go_wp2_with fail
          all_goals first
            | (refine ret_r2 (X := w.heap.size) Tryd.results9 rfl rfl ⟨_, set4_heap _ _ _ _ HB.out.2.2.2, rfl, ?_⟩
               exact ⟨_, rfl, ⟨_, rfl, TxR.nil _ _ _⟩, set4_bel _ _ _ _ (H1.out.2.trans (HB.out.2.2.1.mono H1.out.2.size)) (Nat.le_refl _)⟩)
            | (exfalso; simp_all; done)
            | (exfalso; omega)
        · have hh := y3
          rw [hs_take, Bool.and_eq_true, decide_eq_true_eq, decide_eq_true_eq] at hh
          have e1 : spV1 t y = y := by unfold spV1; rw [if_neg y1, if_neg y2]
          have e2 : okB t y = true := by unfold okB; rw [if_neg y1, if_neg y2]; simp [y3]
          have d6 : 2 ≤ (sB y).size → (((sB y).extract 0 2).toList == [35, 35]) = false := fun q => by
            rw [hex]
            have : ¬ y.take 2 = [35, 35] := fun k => hh ⟨by rw [← hsz]; exact q, k⟩
            simpa using this
          have HE : Hid _ := And.intro e1 e2
          have hpy := HS.out.2.2.2 y
          have HPY : Hid _ := hpy
          clear e1 e2 y1 y2 y3 hl hh hex hsz hpy
          by_cases d5 : 2 ≤ (sB y).size
          · have d7 := d6 d5
            clear d6
            go_wp2_with fail
            all_goals first
              | (go_at_call 30; refine Calls.mono HPY.out ?_
                 rintro e w5 ⟨v5, rfl, ht5, hb5⟩
                 have H5 : Hid _ := And.intro ht5 (HB.out.2.2.1.trans (hb5.mono HB.out.2.2.1.size))
                 clear ht5 hb5
                 go_wp2_with fail
                 go_roundg gg
                 case measure => omega
                 case rel => exact ⟨k + 1, by omega, by go_num, by rw [HS.out.1, HE.out.1]; exact H5.out.1, by rw [HS.out.2.1, HE.out.2]; rfl, H5.out.2⟩)
              | (exfalso; simp_all; done)
              | (exfalso; omega)
          · clear d6
            go_wp2_with fail
            all_goals first
              | (go_at_call 30; refine Calls.mono HPY.out ?_
                 rintro e w5 ⟨v5, rfl, ht5, hb5⟩
                 have H5 : Hid _ := And.intro ht5 (HB.out.2.2.1.trans (hb5.mono HB.out.2.2.1.size))
                 clear ht5 hb5
                 go_wp2_with fail
                 go_roundg gg
                 case measure => omega
                 case rel => exact ⟨k + 1, by omega, by go_num, by rw [HS.out.1, HE.out.1]; exact H5.out.1, by rw [HS.out.2.1, HE.out.2]; rfl, H5.out.2⟩)
              | (exfalso; simp_all; done)
              | (exfalso; omega)
      · have htk : ws.take k = ws := List.take_of_length_le (by rw [Hn.out]; omega)
        have hall := HB.out.2.1
        have hPf := HPP.out.1
        rw [htk] at hall hPf
        have htx := HB.out.1
        have hps : parS ws t = (⟨3, [], rs (ws.map (spV1 t)), 0⟩, true) := by
          unfold parS
          rw [if_neg HN.out.1, if_neg HN.out.2, if_pos hall]
        have hr : R = (⟨3, [], (ws.map (spV1 t)).foldl rput [], pr⟩, 0) := by rw [HRR.out, hps]; rfl
        clear hps
        rw [hPf] at hr
        have HT : Hid _ := htx
        subst hr
        clear hall htk htx hPf
        go_wp2_with fail
        refine ret_r2 (X := w.heap.size) Tryd.results9 rfl rfl ⟨_, set4_heap _ _ _ _ HB.out.2.2.2, rfl, ?_⟩
        exact ⟨_, rfl, ⟨_, rfl, set4_resR _ _ _ _ HT.out HB.out.2.2.2 (.inr rfl)⟩, set4_bel _ _ _ _ (H1.out.2.trans (HB.out.2.2.1.mono H1.out.2.size)) (Nat.le_refl _)⟩
  · have d1 : ((n : Int) == 1) = false := by simp; omega
    clear k1 k2 hn1
    go_wp2_with fail
    go_loopg [10, 11] n (fun gg v10 v11 wr => ∃ k : Nat, k + gg = n ∧ v11 = .int .i64 (k : Int) ∧ TxR wr v10 (((ws.take k).map (spV1 t)).foldl rput []) ∧ (ws.take k).all (okB t) = true ∧ Below W1.heap.size W1 wr)
    case atStart => exact ⟨0, by omega, rfl, TxR.nil _ _ _, rfl, Below.refl _ _⟩
    case round =>
      obtain ⟨k, hk, rfl, htx, hall, hb⟩ := hrel
      have hxr := (hb.block _ (lt_of H1.out.1)).trans H1.out.1
      obtain ⟨⟨c0, c1, c2, c3⟩, f0, f1, f2, f3⟩ := blk4 hxr
      have HB : Hid _ := And.intro htx (And.intro hall (And.intro hb hxr))
      obtain ⟨ya, yc, rfl, _⟩ := htx.len
      clear htx hall hb hxr
      have hlen := len_fold ((ws.take k).map (spV1 t)) []
      rw [List.length_map, List.length_take, List.length_nil, Nat.zero_add] at hlen
      have hinc : Inc (((ws.take k).map (spV1 t)).foldl rput []) := inc_foldput inc_nil
      obtain ⟨P, hP⟩ : ∃ P, ((ws.take k).map (spV1 t)).foldl rput [] = P := ⟨_, rfl⟩
      rw [hP] at HB hlen hinc ⊢
      have HPP : Hid _ := And.intro hP hinc
      clear hP hinc
      have hlen2 : P.length ≤ k := by omega
      clear hlen
      by_cases hlt : k < n
      · obtain ⟨gg, rfl⟩ : ∃ gg, gk = gg + 1 := ⟨gk - 1, by omega⟩
        have hkl : k < ws.length := by rw [Hn.out]; exact hlt
        have e0 : wr.cell? ⟨g, off + k, none⟩ = some (.string (sB ws[k])) := (HB.out.2.2.1.cell (p := ⟨g, off + k, none⟩) hg).trans (HX2.out k ws[k] (by simp [hkl]))
        have hts := take_snoc hkl
        have hal := all_snoc hkl (okB t)
        rw [HB.out.2.1] at hal
        have hmem := List.getElem_mem hkl
        obtain ⟨y, hy⟩ : ∃ y, ws[k] = y := ⟨_, rfl⟩
        rw [hy] at e0 hts hal hmem
        have hfold : ((ws.take (k + 1)).map (spV1 t)).foldl rput [] = rput P (spV1 t y) := by
          rw [hts, List.map_append, List.foldl_append, HPP.out.1]; rfl
        have hpu := fun z => put_any P z (.slice ya P.length yc) wr HB.out.1 HPP.out.2 (by omega)
        have HS : Hid _ := And.intro hfold (And.intro hal (And.intro hmem hpu))
        clear hts hal hmem hy hfold hpu
        have hl := sB_list y
        by_cases y1 : y = tTarget
        · have e1 : spV1 t y = t := by unfold spV1; rw [if_pos y1]
          have e2 : okB t y = true := by unfold okB; rw [if_pos y1]
          have dd : ((sB y).toList == [35, 35, 116, 97, 114, 103, 101, 116, 78, 97, 109, 101, 115, 112, 97, 99, 101]) = true := by rw [hl, y1]; rfl
          have HE : Hid _ := And.intro e1 e2
          clear e1 e2 y1 hl
          generalize sB y = M at e0 dd
          go_wp2_with fail
          all_goals first
            | (go_at_call 30; refine Calls.mono (HS.out.2.2.2 t) ?_
               rintro e w5 ⟨v5, rfl, ht5, hb5⟩
               have H5 : Hid _ := And.intro ht5 (HB.out.2.2.1.trans (hb5.mono HB.out.2.2.1.size))
               clear ht5 hb5
               go_wp2_with fail
               go_roundg gg
               case measure => omega
               case rel => exact ⟨k + 1, by omega, by go_num, by rw [HS.out.1, HE.out.1]; exact H5.out.1, by rw [HS.out.2.1, HE.out.2]; rfl, H5.out.2⟩)
            | (exfalso; simp_all)
        by_cases y2 : y = tLocal
        · have e1 : spV1 t y = [] := by unfold spV1; rw [if_neg y1, if_pos y2]
          have e2 : okB t y = true := by unfold okB; rw [if_neg y1, if_pos y2]
          have dd : ((sB y).toList == [35, 35, 116, 97, 114, 103, 101, 116, 78, 97, 109, 101, 115, 112, 97, 99, 101]) = false := by rw [hl, y2]; rfl
          have de : ((sB y).toList == [35, 35, 108, 111, 99, 97, 108]) = true := by rw [hl, y2]; rfl
          have HE : Hid _ := And.intro e1 e2
          clear e1 e2 y1 y2 hl
          generalize sB y = M at e0 dd de
          go_wp2_with fail
          all_goals first
            | (go_at_call 30; refine Calls.mono (HS.out.2.2.2 []) ?_
               rintro e w5 ⟨v5, rfl, ht5, hb5⟩
               have H5 : Hid _ := And.intro ht5 (HB.out.2.2.1.trans (hb5.mono HB.out.2.2.1.size))
               clear ht5 hb5
               go_wp2_with fail
               go_roundg gg
               case measure => omega
               case rel => exact ⟨k + 1, by omega, by go_num, by rw [HS.out.1, HE.out.1]; exact H5.out.1, by rw [HS.out.2.1, HE.out.2]; rfl, H5.out.2⟩)
            | (exfalso; simp_all)
        have dd : ((sB y).toList == [35, 35, 116, 97, 114, 103, 101, 116, 78, 97, 109, 101, 115, 112, 97, 99, 101]) = false := by rw [hl]; simp; exact y1
        have de : ((sB y).toList == [35, 35, 108, 111, 99, 97, 108]) = false := by rw [hl]; simp; exact y2
        have hsz := sB_size y
        have hex := ext_list y
        by_cases y3 : hsB y = true
        · have hh := y3
          rw [hs_take, Bool.and_eq_true, decide_eq_true_eq, decide_eq_true_eq] at hh
          have e2 : okB t y = false := by unfold okB; rw [if_neg y1, if_neg y2, y3]; rfl
          have d5 : decide ((sB y).size ≥ 2) = true := by rw [hsz]; exact decide_eq_true hh.1
          have d6 : (((sB y).extract 0 2).toList == [35, 35]) = true := by rw [hex, hh.2]; rfl
          have hsz2 : 2 ≤ (sB y).size := by rw [hsz]; exact hh.1
          have hps : parS ws t = (Wd.zero, false) := by
            unfold parS
            rw [if_neg HN.out.1, if_neg HN.out.2, if_neg (fun q => by have := List.all_eq_true.1 q y HS.out.2.2.1; rw [e2] at this; cases this)]
          have hr : R = (Wd.zero, 2) := by rw [HRR.out, hps]; rfl
          clear hps
          subst hr
          clear e2 y1 y2 y3 hl hh hex hsz
          generalize sB y = M at e0 dd de d5 d6 hsz2
          go_wp2_with fail
          all_goals first
            | (refine ret_r2 (X := w.heap.size) Tryd.results9 rfl rfl ⟨_, set4_heap _ _ _ _ HB.out.2.2.2, rfl, ?_⟩
               exact ⟨_, rfl, ⟨_, rfl, TxR.nil _ _ _⟩, set4_bel _ _ _ _ (H1.out.2.trans (HB.out.2.2.1.mono H1.out.2.size)) (Nat.le_refl _)⟩)
            | (exfalso; simp_all; done)
            | (exfalso; omega)
        · have hh := y3
          rw [hs_take, Bool.and_eq_true, decide_eq_true_eq, decide_eq_true_eq] at hh
          have e1 : spV1 t y = y := by unfold spV1; rw [if_neg y1, if_neg y2]
          have e2 : okB t y = true := by unfold okB; rw [if_neg y1, if_neg y2]; simp [y3]
          have d6 : 2 ≤ (sB y).size → (((sB y).extract 0 2).toList == [35, 35]) = false := fun q => by
            rw [hex]
            have : ¬ y.take 2 = [35, 35] := fun k => hh ⟨by rw [← hsz]; exact q, k⟩
            simpa using this
          have HE : Hid _ := And.intro e1 e2
          have hpy := HS.out.2.2.2 y
          have HPY : Hid _ := hpy
          clear e1 e2 y1 y2 y3 hl hh hex hsz hpy
          by_cases d5 : 2 ≤ (sB y).size
          · have d7 := d6 d5
            clear d6
            go_wp2_with fail
            all_goals first
              | (go_at_call 30; refine Calls.mono HPY.out ?_
                 rintro e w5 ⟨v5, rfl, ht5, hb5⟩
                 have H5 : Hid _ := And.intro ht5 (HB.out.2.2.1.trans (hb5.mono HB.out.2.2.1.size))
                 clear ht5 hb5
                 go_wp2_with fail
                 go_roundg gg
                 case measure => omega
                 case rel => exact ⟨k + 1, by omega, by go_num, by rw [HS.out.1, HE.out.1]; exact H5.out.1, by rw [HS.out.2.1, HE.out.2]; rfl, H5.out.2⟩)
              | (exfalso; simp_all; done)
              | (exfalso; omega)
          · clear d6
            go_wp2_with fail
            all_goals first
              | (go_at_call 30; refine Calls.mono HPY.out ?_
                 rintro e w5 ⟨v5, rfl, ht5, hb5⟩
                 have H5 : Hid _ := And.intro ht5 (HB.out.2.2.1.trans (hb5.mono HB.out.2.2.1.size))
                 clear ht5 hb5
                 go_wp2_with fail
                 go_roundg gg
                 case measure => omega
                 case rel => exact ⟨k + 1, by omega, by go_num, by rw [HS.out.1, HE.out.1]; exact H5.out.1, by rw [HS.out.2.1, HE.out.2]; rfl, H5.out.2⟩)
              | (exfalso; simp_all; done)
              | (exfalso; omega)
      · have htk : ws.take k = ws := List.take_of_length_le (by rw [Hn.out]; omega)
        have hall := HB.out.2.1
        have hPf := HPP.out.1
        rw [htk] at hall hPf
        have htx := HB.out.1
        have hps : parS ws t = (⟨3, [], rs (ws.map (spV1 t)), 0⟩, true) := by
          unfold parS
          rw [if_neg HN.out.1, if_neg HN.out.2, if_pos hall]
        have hr : R = (⟨3, [], (ws.map (spV1 t)).foldl rput [], pr⟩, 0) := by rw [HRR.out, hps]; rfl
        clear hps
        rw [hPf] at hr
        have HT : Hid _ := htx
        subst hr
        clear hall htk htx hPf
        go_wp2_with fail
        refine ret_r2 (X := w.heap.size) Tryd.results9 rfl rfl ⟨_, set4_heap _ _ _ _ HB.out.2.2.2, rfl, ?_⟩
        exact ⟨_, rfl, ⟨_, rfl, set4_resR _ _ _ _ HT.out HB.out.2.2.2 (.inr rfl)⟩, set4_bel _ _ _ _ (H1.out.2.trans (HB.out.2.2.1.mono H1.out.2.size)) (Nat.le_refl _)⟩
end Go.Proofs.YtknfipcegmajaaaDoor
namespace Go.Proofs.YtknfipcegmajaaaDoor
open Go.RowKit
set_option linter.unusedVariables false
set_option linter.unusedSimpArgs false

theorem sB_app (x y : Tx) : sB x ++ sB y = sB (x ++ y) := by
  apply ByteArray.ext
  rw [ByteArray.data_append]
  simp [sB]
def ints (x : Tx) : List Int := x.map fun c => (c.toNat : Int)
theorem bl_sB (x : Tx) : Ch.bl (sB x) = ints x := by simp [Ch.bl, sB, ints]
def Wd1 (x : Tx) : Prop := x ≠ [] ∧ ∀ c ∈ x, Ch.isWhite (c.toNat : Int) = false
def txt6 (ws : List Tx) : Tx := ws.flatMap (fun x => 32 :: x)
theorem wd_word (x : Tx) (l cur : List Int) (h : ∀ c ∈ x, Ch.isWhite (c.toNat : Int) = false) : Ch.wd (ints x ++ l) cur = Ch.wd l (cur ++ ints x) := by
  induction x generalizing cur with
  | nil => simp [ints]
  | cons c x ih =>
    have hc := h c (by simp)
    have := ih (cur ++ [(c.toNat : Int)]) (fun d hd => h d (by simp [hd]))
    simp only [ints, List.map_cons, List.cons_append, Ch.wd] at this ⊢
    rw [if_neg (by rw [hc]; simp), this]
    simp
theorem wd_txt (ws : List Tx) (cur : List Int) (h : ∀ x ∈ ws, Wd1 x) : Ch.wd (ints (txt6 ws)) cur = (if cur.length = 0 then [] else [cur]) ++ ws.map ints := by
  induction ws generalizing cur with
  | nil => simp [txt6, ints, Ch.wd]
  | cons x ws ih =>
    obtain ⟨hx, hw⟩ := h x (by simp)
    have e : ints (txt6 (x :: ws)) = 32 :: (ints x ++ ints (txt6 ws)) := by simp [txt6, ints]
    have h32 : Ch.isWhite 32 = true := by decide
    have hl : (ints x).length ≠ 0 := by simpa [ints] using hx
    have h1 := ih (ints x) (fun y hy => h y (by simp [hy]))
    rw [if_neg hl] at h1
    have h2 : Ch.wd (ints x ++ ints (txt6 ws)) [] = [ints x] ++ ws.map ints := by rw [wd_word x _ _ hw, List.nil_append, h1]
    rw [e, Ch.wd, if_pos h32, h2]
    split <;> simp
theorem sb_ints (x : Tx) : tx (Ch.sb (ints x)) = x := by
  simp [tx, Ch.sb, ints, Function.comp_def]
theorem wds_txt (ws : List Tx) (h : ∀ x ∈ ws, Wd1 x) : wds (txt6 ws) = ws := by
  unfold wds
  rw [Ch.wordsOf_wd, bl_sB, wd_txt ws [] h]
  simp [List.map_map, Function.comp_def, sb_ints]
def lt6 (z : Int) : UInt8 := UInt8.ofNat (97 + z % 26).toNat
theorem lt6_nat (z : Int) : ((lt6 z).toNat : Int) = 97 + z % 26 := by
  have h1 := Int.emod_nonneg z (by decide : (26 : Int) ≠ 0)
  have h2 := Int.emod_lt_of_pos z (by decide : (0 : Int) < 26)
  simp [lt6]
  omega
theorem lt6_inj (z y : Int) : lt6 z = lt6 y ↔ z % 26 = y % 26 := by
  constructor
  · intro h
    have h1 := lt6_nat z
    have h2 := lt6_nat y
    rw [h] at h1
    omega
  · intro h
    unfold lt6
    rw [h]
def uw (z : Int) : Tx := [117, lt6 z]
def ws6 (zs : List Int) (o p : Bool) : List Tx := zs.map uw ++ ((if o = true then [tLocal] else []) ++ (if p = true then [tTarget] else []))
theorem uw_wd (z : Int) : Wd1 (uw z) := by
  refine ⟨by simp [uw], fun c hc => ?_⟩
  have h1 := lt6_nat z
  have h2 := Int.emod_nonneg z (by decide : (26 : Int) ≠ 0)
  simp only [uw, List.mem_cons, List.not_mem_nil, or_false] at hc
  rcases hc with rfl | rfl
  · decide
  · rw [h1, Ch.isWhite]
    exact decide_eq_false (by omega)
theorem ws6_mem {zs : List Int} {o p : Bool} {x : Tx} (h : x ∈ ws6 zs o p) : (∃ z, x = uw z) ∨ x = tLocal ∨ x = tTarget := by
  unfold ws6 at h
  rw [List.mem_append, List.mem_append, List.mem_map] at h
  rcases h with ⟨z, _, rfl⟩ | h | h
  · exact .inl ⟨z, rfl⟩
  · cases o <;> simp at h; exact .inr (.inl h)
  · cases p <;> simp at h; exact .inr (.inr h)
theorem loc_wd : Wd1 tLocal := ⟨by decide, by decide⟩
theorem tar_wd : Wd1 tTarget := ⟨by decide, by decide⟩
theorem ws6_wd (zs : List Int) (o p : Bool) : ∀ x ∈ ws6 zs o p, Wd1 x := fun x hx => by
  rcases ws6_mem hx with ⟨z, rfl⟩ | rfl | rfl
  · exact uw_wd z
  · exact loc_wd
  · exact tar_wd
def sp6 (zs : List Int) (o p : Bool) : List Tx := rs (zs.map uw ++ ((if o = true then [[]] else []) ++ (if p = true then [kX] else [])))
def A6 (zs : List Int) (o p : Bool) : Wd := ⟨3, [], sp6 zs o p, 1⟩
def N6 : Wd := ⟨2, kX, [], 3⟩
theorem uw_sp (z : Int) : spV1 kX (uw z) = uw z := by simp [spV1, uw, tTarget, tLocal]
theorem uw_ok (z : Int) : okB kX (uw z) = true := by simp [okB, uw, tTarget, tLocal, hsB, List.isPrefixOf]
theorem sp_map (zs : List Int) (o p : Bool) : (ws6 zs o p).map (spV1 kX) = zs.map uw ++ ((if o = true then [[]] else []) ++ (if p = true then [kX] else [])) := by
  unfold ws6
  rw [List.map_append, List.map_append, List.map_map]
  have e : (spV1 kX ∘ uw) = uw := by funext z; exact uw_sp z
  rw [e]
  cases o <;> cases p <;> simp <;> (try decide)
theorem parse6 (zs : List Int) (o p : Bool) (h : ws6 zs o p ≠ []) : parseS (ws6 zs o p) kX [] = (A6 zs o p, 0) := by
  have n1 : ws6 zs o p ≠ [tAny] := fun q => by
    have : tAny ∈ ws6 zs o p := by rw [q]; simp
    rcases ws6_mem this with ⟨z, h⟩ | h | h
    · simp [tAny, uw] at h
    · exact absurd h (by decide)
    · exact absurd h (by decide)
  have n2 : ws6 zs o p ≠ [tOther] := fun q => by
    have : tOther ∈ ws6 zs o p := by rw [q]; simp
    rcases ws6_mem this with ⟨z, h⟩ | h | h
    · simp [tOther, uw] at h
    · exact absurd h (by decide)
    · exact absurd h (by decide)
  have n3 : (ws6 zs o p).all (okB kX) = true := List.all_eq_true.2 fun x hx => by
    rcases ws6_mem hx with ⟨z, rfl⟩ | rfl | rfl
    · exact uw_ok z
    · decide
    · decide
  have n4 : parS (ws6 zs o p) kX = (⟨3, [], sp6 zs o p, 0⟩, true) := by
    unfold parS
    rw [if_neg (by rintro (q | q); exact h q; exact n1 q), if_neg n2, if_pos n3, sp_map]
    rfl
  unfold parseS
  rw [n4]
  rfl
theorem parse6n : parseS (wds tOther) kX tSkip = (N6, 0) := by decide +kernel
theorem wr6 (zs : List Int) (o p : Bool) : Wr (A6 zs o p) := ⟨.inr (.inr rfl), fun _ => rfl, fun q => absurd rfl q, inc_rs _, by simp [A6]⟩
theorem wr6n : Wr N6 := (rgt_iff _).1 (by decide +kernel)
theorem alw6 (zs : List Int) (o p : Bool) : alw (A6 zs o p) = ⟨false, sp6 zs o p⟩ := rfl
theorem has6 (zs : List Int) (o p : Bool) (x : Tx) : (alw (A6 zs o p)).has x = decide (x ∈ sp6 zs o p) := by
  rw [alw6, Sp.has]
  simp
theorem mem6 (zs : List Int) (o p : Bool) (x : Tx) : x ∈ sp6 zs o p ↔ (∃ z ∈ zs, uw z = x) ∨ (o = true ∧ x = []) ∨ (p = true ∧ x = kX) := by
  unfold sp6
  rw [mem_rs, List.mem_append, List.mem_append, List.mem_map]
  cases o <;> cases p <;> simp
theorem has6_nil (zs : List Int) (o p : Bool) : (alw (A6 zs o p)).has [] = o := by
  rw [has6]
  cases o
  · exact decide_eq_false fun q => by rw [mem6] at q; simp [uw, kX] at q
  · exact decide_eq_true ((mem6 _ _ _ _).2 (.inr (.inl ⟨rfl, rfl⟩)))
theorem has6_t (zs : List Int) (o p : Bool) : (alw (A6 zs o p)).has kX = p := by
  rw [has6]
  cases p
  · exact decide_eq_false fun q => by rw [mem6] at q; simp [uw, kX] at q
  · exact decide_eq_true ((mem6 _ _ _ _).2 (.inr (.inr ⟨rfl, rfl⟩)))
def kV : Tx := [118]
theorem has6_v (zs : List Int) (o p : Bool) : (alw (A6 zs o p)).has kV = false := by
  rw [has6]
  exact decide_eq_false fun q => by rw [mem6] at q; simp [uw, kX, kV] at q
theorem has6_u (zs : List Int) (o p : Bool) (y : Int) : (alw (A6 zs o p)).has (uw y) = zs.any (fun z => decide (z % 26 = y % 26)) := by
  rw [has6, Bool.eq_iff_iff, decide_eq_true_eq, mem6, List.any_eq_true]
  constructor
  · rintro (⟨z, hz, h⟩ | h | h)
    · refine ⟨z, hz, decide_eq_true ?_⟩
      simp only [uw, List.cons.injEq, and_true, true_and] at h
      exact (lt6_inj _ _).1 h
    · simp [uw] at h
    · simp [uw, kX] at h
  · rintro ⟨z, hz, h⟩
    exact .inl ⟨z, hz, by unfold uw; rw [(lt6_inj z y).2 (of_decide_eq_true h)]⟩
theorem has6n_v : (alw N6).has kV = true := by decide +kernel
theorem uni6 (zs : List Int) (o p : Bool) : (unionP (A6 zs o p) N6).2 = (!o || p) := by
  have e1 : (bothS (alw (A6 zs o p)).not (alw N6).not).not = ⟨true, (alw N6).l.filter (alw (A6 zs o p)).not.has⟩ := rfl
  have h1 : (alw (A6 zs o p)).not.has [] = !o := by have := mem_not (alw (A6 zs o p)) (some []); simp only [Sp.mem] at this; rw [this, has6_nil]
  have h2 : (alw (A6 zs o p)).not.has kX = !p := by have := mem_not (alw (A6 zs o p)) (some kX); simp only [Sp.mem] at this; rw [this, has6_t]
  have e2 : (alw N6).l = [[], kX] := rfl
  unfold unionP
  rw [e1, e2]
  simp only [List.filter, h1, h2]
  cases o <;> cases p <;> rfl
theorem uni6_ok (zs : List Int) (o p : Bool) (h : (!o || p) = true) : Wr (unionP (A6 zs o p) N6).1 ∧ (alw (unionP (A6 zs o p) N6).1).has kX = p ∧ (alw (unionP (A6 zs o p) N6).1).has [] = o ∧ (alw (unionP (A6 zs o p) N6).1).has kV = true := by
  obtain ⟨h1, h2⟩ := union_wr (wr6 zs o p) wr6n (by rw [uni6]; exact h)
  have q : ∀ x, (alw (unionP (A6 zs o p) N6).1).has x = ((alw (A6 zs o p)).has x || (alw N6).has x) := fun x => h2 (some x)
  refine ⟨h1, ?_, ?_, ?_⟩
  · rw [q, has6_t]; have : (alw N6).has kX = false := by decide +kernel
    rw [this, Bool.or_false]
  · rw [q, has6_nil]; have : (alw N6).has [] = false := by decide +kernel
    rw [this, Bool.or_false]
  · rw [q, has6n_v, Bool.or_true]
theorem sp6_len (zs : List Int) (o p : Bool) : (sp6 zs o p).length ≤ zs.length + 2 := by
  have := rs_len (zs.map uw ++ ((if o = true then [[]] else []) ++ (if p = true then [kX] else [])))
  unfold sp6
  cases o <;> cases p <;> simp at this ⊢ <;> omega
theorem conv_one (x : Int) (w : World) : (convert 47 9 (.slice (some ⟨w.heap.size, 0, none⟩) 1 1)).run Tryd.prog (w.alloc (.cells #[.int .u8 x] 5)) = .ok (.string (sB [UInt8.ofNat x.toNat])) (w.alloc (.cells #[.int .u8 x] 5)) :=
  Ch.conv_string w.heap.size 0 1 [x] (w.alloc (.cells #[.int .u8 x] 5)) (fun i hi => by
    have : i = 0 := by simpa using hi
    subst this
    have h := nw_heap w (.cells #[.int .u8 x] 5)
    simp only [World.cell?, h]
    rfl)
theorem txt6_app (a b : List Tx) : txt6 (a ++ b) = txt6 a ++ txt6 b := by simp [txt6]
theorem txt6_len (ws : List Tx) (n : Nat) (h : ∀ x ∈ ws, x.length ≤ n) : (txt6 ws).length ≤ (n + 1) * ws.length := by
  induction ws with
  | nil => simp [txt6]
  | cons x ws ih =>
    have h1 := h x (by simp)
    have h2 := ih (fun y hy => h y (by simp [hy]))
    have e : (txt6 (x :: ws)).length = x.length + 1 + (txt6 ws).length := by simp [txt6]; omega
    rw [e, List.length_cons, Nat.mul_add]
    omega
end Go.Proofs.YtknfipcegmajaaaDoor
namespace Go.Proofs.YtknfipcegmajaaaDoor
open Go.RowKit
set_option linter.unusedVariables false
set_option linter.unusedSimpArgs false

def fnd (l : List Int) (y : Int) : Bool := l.any (fun z => decide (z % 26 = y % 26))
def BtIn (w : World) (a : Option Addr) (L : List Int) : Prop := L = [] ∨ ∃ g f, a = some ⟨g, f, none⟩ ∧ g < w.heap.size ∧ ∀ i (hi : i < L.length), w.cell? ⟨g, f + i, none⟩ = some (.int .u8 L[i])
theorem txt6_le (l : List Int) : (txt6 (l.map uw)).length ≤ 3 * l.length := by
  have := txt6_len (l.map uw) 2 (fun x hx => by
    obtain ⟨z, _, rfl⟩ := List.mem_map.1 hx
    simp [uw])
  rwa [List.length_map] at this
theorem cat_uw (S : ByteArray) (T : Tx) (z : Int) (h : sB T = S) : S ++ ⟨#[32, 117]⟩ ++ sB [lt6 z] = sB (T ++ [32, 117, lt6 z]) := by
  rw [← h, show (⟨#[32, 117]⟩ : ByteArray) = sB [32, 117] from rfl, sB_app, sB_app]
  simp
theorem txt6_snoc (l : List Int) (z : Int) : txt6 ((l ++ [z]).map uw) = txt6 (l.map uw) ++ [32, 117, lt6 z] := by
  rw [List.map_append, txt6_app]
  rfl
theorem fnd_snoc (l : List Int) (z y : Int) : fnd (l ++ [z]) y = (fnd l y || decide (z % 26 = y % 26)) := by simp [fnd]
set_option maxRecDepth 8000 in
set_option maxHeartbeats 8000000 in
theorem spaces_s (a : Option Addr) (cap : Nat) (L : List Int) (o p : Bool) (y : Int) (w : World) (hL : ∀ d ∈ L, 0 ≤ d ∧ d < 256) (hm : L.length ≤ maxLen) (hr : BtIn w a L) (hy : 0 ≤ y ∧ y < 256) :
    Calls Tryd.prog 6 #[.slice a L.length cap, .bool o, .bool p, .int .u8 y] w fun e w' => e = .returned (.bool true) ∧ Below w.heap.size w w' := by
  unfold maxLen at hm
  obtain ⟨n, hn⟩ : ∃ n, L.length = n := ⟨_, rfl⟩
  have HL : Hid _ := And.intro hL (And.intro hr hn)
  rw [hn] at hm ⊢
  clear hL hr hn
  obtain ⟨hy0, hy1⟩ := hy
  go_enter Tryd.func6, Tryd.ntmps6
  by_cases h20 : 20 < n
  · have d0 : decide ((20 : Int) < (n : Int)) = true := decide_eq_true (by omega)
    go_wp2_with (go_at_call 7; (with_reducible refine Calls.mono (known_p _) ?_); rintro e w1 ⟨rfl, hb1⟩)
    all_goals
      go_ret
      exact ⟨rfl, by assumption⟩
  have d0 : decide ((20 : Int) < (n : Int)) = false := decide_eq_false (by omega)
  go_wp2_with (go_at_call 7; (with_reducible refine Calls.mono (known_p _) ?_); rintro e w1 ⟨rfl, hb1⟩)
  clear d0
  go_loopg [9, 10, 11] (n + 1) (fun g v9 v10 v11 wr => ∃ k : Nat, k + g = n + 1 ∧ k ≤ n ∧ v9 = .string (sB (txt6 ((L.take k).map uw))) ∧ v10 = .bool (fnd (L.take k) y) ∧ v11 = .int .i64 (k : Int) ∧ Below w.heap.size w wr)
  case atStart => exact ⟨0, by omega, by omega, rfl, rfl, rfl, by assumption⟩
  case round =>
    obtain ⟨k, hk, hkn, rfl, rfl, rfl, hbel⟩ := hrel
    have htl : (txt6 ((L.take k).map uw)).length ≤ 60 := Nat.le_trans (txt6_le _) (by rw [List.length_take]; omega)
    have hss := sB_size (txt6 ((L.take k).map uw))
    obtain ⟨S, hS⟩ : ∃ S, sB (txt6 ((L.take k).map uw)) = S := ⟨_, rfl⟩
    obtain ⟨F, hF⟩ : ∃ F, fnd (L.take k) y = F := ⟨_, rfl⟩
    rw [hS] at hss
    have hsz : S.size ≤ 60 := by omega
    rw [hS, hF]
    by_cases hlt : k < n
    · obtain ⟨g, rfl⟩ : ∃ g, gk = g + 1 := ⟨gk - 1, by omega⟩
      have hkl : k < L.length := by rw [HL.out.2.2]; exact hlt
      rcases HL.out.2.1 with h | ⟨g0, f, ha, hg0, hcell⟩
      · exfalso; rw [h] at hkl; simp at hkl
      obtain ⟨z, hz⟩ : ∃ z, L[k] = z := ⟨_, rfl⟩
      have e0 := (hbel.cell (p := ⟨g0, f + k, none⟩) hg0).trans (hcell k hkl)
      obtain ⟨hz0, hz1⟩ := HL.out.1 _ (List.getElem_mem hkl)
      rw [hz] at e0 hz0 hz1
      have e1 : (wr.alloc (.cells #[.int .u8 (97 + z % 26)] 5)).cell? ⟨g0, f + k, none⟩ = some (.int .u8 z) := ((bel1 wr _).cell (p := ⟨g0, f + k, none⟩) (Nat.lt_of_lt_of_le hg0 hbel.size)).trans e0
      have htk : L.take (k + 1) = L.take k ++ [z] := by rw [List.take_succ_eq_append_getElem hkl, hz]
      have d1 : decide ((k : Int) < (n : Int)) = true := decide_eq_true (by omega)
      have hcv : ∀ W : World, (convert 47 9 (.slice (some ⟨W.heap.size, 0, none⟩) 1 1)).run Tryd.prog (W.alloc (.cells #[.int .u8 (97 + z % 26)] 5)) = .ok (.string (sB [lt6 z])) (W.alloc (.cells #[.int .u8 (97 + z % 26)] 5)) := fun W => conv_one _ W
      have hs1 : (sB [lt6 z]).size = 1 := rfl
      have HX : Hid _ := And.intro hS (And.intro hF (And.intro htk hbel))
      have m0 : 0 ≤ z % 26 ∧ z % 26 < 26 := ⟨Int.emod_nonneg z (by decide), Int.emod_lt_of_pos z (by decide)⟩
      have m1 : 0 ≤ y % 26 ∧ y % 26 < 26 := ⟨Int.emod_nonneg y (by decide), Int.emod_lt_of_pos y (by decide)⟩
      obtain ⟨m00, m01⟩ := m0
      obtain ⟨m10, m11⟩ := m1
      subst ha
      clear hS hF htk hbel hz hcell htl hss
      obtain ⟨C, hC⟩ : ∃ C, sB [lt6 z] = C := ⟨_, rfl⟩
      rw [hC] at hcv hs1
      have HC : Hid _ := hC
      clear hC
      cases F
      all_goals
        go_wp2_with fail
        go_roundg g
        case measure => omega
        case rel =>
          refine ⟨k + 1, by omega, by omega, ?_, ?_, by go_num, HX.out.2.2.2.alloc HX.out.2.2.2.size _⟩
          · rw [HX.out.2.2.1, txt6_snoc, ← cat_uw S _ z HX.out.1, ← HC.out]
          · rw [HX.out.2.2.1, fnd_snoc, HX.out.2.1]
            first | rfl | simp
    · have hkn' : k = n := by omega
      subst hkn'
      have hw : L.take k = L := List.take_of_length_le (by rw [HL.out.2.2]; exact Nat.le_refl _)
      rw [hw] at hS hF
      have d1 : decide ((k : Int) < (k : Int)) = false := decide_eq_false (by omega)
      have HS : Hid _ := And.intro hS (And.intro hF hbel)
      clear hS hF hbel hss htl hw
      go_upto_if 51 with fail
      go_cut [9] from 52 to 53 (fun v wx => ∃ S' : ByteArray, v = .string S' ∧ S' = sB (txt6 (ws6 L o false)) ∧ S'.size ≤ 68 ∧ wx = wr)
      case first =>
        cases o
        · go_wp2_with fail
          go_meet
          case rel => exact ⟨_, rfl, by rw [← HS.out.1]; simp [ws6], by omega, rfl⟩
        · have hsum : (⟨#[32, 35, 35, 108, 111, 99, 97, 108]⟩ : ByteArray).size = 8 := rfl
          go_wp2_with fail
          go_meet
          case rel => exact ⟨_, rfl, by rw [← HS.out.1, show (⟨#[32, 35, 35, 108, 111, 99, 97, 108]⟩ : ByteArray) = sB (32 :: tLocal) from rfl, sB_app]; simp [ws6, txt6], by rw [ByteArray.size_append]; omega, rfl⟩
      case rest =>
        obtain ⟨S1, rfl, hS1, hz1, hw1⟩ := hcut
        subst hw1
        have H1 : Hid _ := And.intro hS1 (And.intro HS.out.2.1 HS.out.2.2)
        clear hS1 hsz
        go_upto_if 54 with fail
        go_cut [9] from 55 to 56 (fun v wx => ∃ S' : ByteArray, v = .string S' ∧ S' = sB (txt6 (ws6 L o p)) ∧ S'.size ≤ 88 ∧ wx = wc)
        case first =>
          cases p
          · go_wp2_with fail
            go_meet
            case rel => exact ⟨_, rfl, H1.out.1, by omega, rfl⟩
          · have hsum : (⟨#[32, 35, 35, 116, 97, 114, 103, 101, 116, 78, 97, 109, 101, 115, 112, 97, 99, 101]⟩ : ByteArray).size = 18 := rfl
            go_wp2_with fail
            go_meet
            case rel => exact ⟨_, rfl, by rw [H1.out.1, show (⟨#[32, 35, 35, 116, 97, 114, 103, 101, 116, 78, 97, 109, 101, 115, 112, 97, 99, 101]⟩ : ByteArray) = sB (32 :: tTarget) from rfl, sB_app]; simp [ws6, txt6], by rw [ByteArray.size_append]; omega, rfl⟩
        case rest =>
          obtain ⟨S2, rfl, hS2, hz2, hw2⟩ := hcut
          subst hw2
          have htl2 := sB_size (txt6 (ws6 L o p))
          rw [← hS2] at htl2
          by_cases hne : ws6 L o p = []
          · have hem : S2.toList.isEmpty = true := by rw [hS2, hne, emp_dec]; rfl
            have hS0 : S2 = ⟨#[]⟩ := by rw [hS2, hne]; rfl
            subst hS0
            clear hS2 htl2
            go_wp2_with fail
            go_ret
            exact ⟨rfl, H1.out.2.2⟩
          have hem : S2.toList.isEmpty = false := by
            rw [hS2, emp_dec]
            refine decide_eq_false fun q => hne ?_
            cases h : ws6 L o p with
            | nil => rfl
            | cons x l => rw [h] at q; simp [txt6] at q
          have hlen22 : (A6 L o p).sp.length ≤ 22 := Nat.le_trans (sp6_len L o p) (by rw [HL.out.2.2]; omega)
          have hPa : ∀ W, Calls Tryd.prog 8 #[.string S2, .string ⟨#[116]⟩, .string ⟨#[]⟩] W fun e w' => PrQ (A6 L o p, 0) W e w' := fun W => by
            have h := parse_p (txt6 (ws6 L o p)) kX [] W (by omega)
            rw [wds_txt _ (ws6_wd L o p), parse6 L o p hne] at h
            rw [hS2]
            exact h
          have hPn : ∀ W, Calls Tryd.prog 8 #[.string ⟨#[35, 35, 111, 116, 104, 101, 114]⟩, .string ⟨#[116]⟩, .string ⟨#[115, 107, 105, 112]⟩] W fun e w' => PrQ (N6, 0) W e w' := fun W => by
            have h := parse_p tOther kX tSkip W (by decide)
            rw [parse6n] at h
            exact h
          have hinc := inc_alw (wr6 L o p)
          have hla : (A6 L o p).sp.length < 5000 := by omega
          have hQu : ∀ v W, WdV W v (A6 L o p) → Calls Tryd.prog 19 #[v, .string (⟨#[117]⟩ ++ sB [lt6 y])] W fun e w' => e = .returned (.bool F) ∧ Below W.heap.size W w' := fun v W h => by
            have q := allows_p (A6 L o p) (uw y) v W h hinc hla
            rw [has6_u, show (L.any fun z => decide (z % 26 = y % 26)) = F from H1.out.2.1] at q
            rw [show (⟨#[117]⟩ : ByteArray) = sB [117] from rfl, sB_app]
            exact q
          have hQ0 : ∀ v W, WdV W v (A6 L o p) → Calls Tryd.prog 19 #[v, .string ⟨#[]⟩] W fun e w' => e = .returned (.bool o) ∧ Below W.heap.size W w' := fun v W h => by
            have q := allows_p (A6 L o p) [] v W h hinc hla
            rw [has6_nil] at q
            exact q
          have hQt : ∀ v W, WdV W v (A6 L o p) → Calls Tryd.prog 19 #[v, .string ⟨#[116]⟩] W fun e w' => e = .returned (.bool p) ∧ Below W.heap.size W w' := fun v W h => by
            have q := allows_p (A6 L o p) kX v W h hinc hla
            rw [has6_t] at q
            exact q
          have hQv : ∀ v W, WdV W v (A6 L o p) → Calls Tryd.prog 19 #[v, .string ⟨#[118]⟩] W fun e w' => e = .returned (.bool false) ∧ Below W.heap.size W w' := fun v W h => by
            have q := allows_p (A6 L o p) kV v W h hinc hla
            rw [has6_v] at q
            exact q
          have hQn : ∀ v W, WdV W v N6 → Calls Tryd.prog 19 #[v, .string ⟨#[118]⟩] W fun e w' => e = .returned (.bool true) ∧ Below W.heap.size W w' := fun v W h => by
            have q := allows_p N6 kV v W h (inc_alw wr6n) (by decide)
            rw [has6n_v] at q
            exact q
          have hUn : ∀ va vb W, WdV W va (A6 L o p) → WdV W vb N6 → Calls Tryd.prog 17 #[va, vb] W fun e w' => WbQ (unionP (A6 L o p) N6) W e w' := fun va vb W h h' => unionW_p (A6 L o p) N6 va vb W h h' hinc (inc_alw wr6n) (by omega) (by decide)
          have hUl := unionP_len (A := A6 L o p) (B := N6) (by omega) (by decide)
          have hUi := uni6 L o p
          have hUk := uni6_ok L o p
          generalize A6 L o p = A at hPa hQu hQ0 hQt hQv hUn hUl hUi hUk
          generalize N6 = B at hPn hQn hUn hUl hUi hUk
          generalize unionP A B = R at hUn hUl hUi hUk
          obtain ⟨U, is⟩ := R
          dsimp only at hUl hUi hUk
          have hU1 : is = true → ∀ v W, WdV W v U → Calls Tryd.prog 19 #[v, .string ⟨#[116]⟩] W fun e w' => e = .returned (.bool p) ∧ Below W.heap.size W w' := fun k v W h => by
            have k' := hUk (by rw [← hUi]; exact k)
            have q := allows_p U kX v W h (inc_alw k'.1) (by omega)
            rw [k'.2.1] at q
            exact q
          have hU2 : is = true → ∀ v W, WdV W v U → Calls Tryd.prog 19 #[v, .string ⟨#[]⟩] W fun e w' => e = .returned (.bool o) ∧ Below W.heap.size W w' := fun k v W h => by
            have k' := hUk (by rw [← hUi]; exact k)
            have q := allows_p U [] v W h (inc_alw k'.1) (by omega)
            rw [k'.2.2.1] at q
            exact q
          have hU3 : is = true → ∀ v W, WdV W v U → Calls Tryd.prog 19 #[v, .string ⟨#[118]⟩] W fun e w' => e = .returned (.bool true) ∧ Below W.heap.size W w' := fun k v W h => by
            have k' := hUk (by rw [← hUi]; exact k)
            have q := allows_p U kV v W h (inc_alw k'.1) (by omega)
            rw [k'.2.2.2] at q
            exact q
          have HP : Hid _ := And.intro hPa (And.intro hPn hUn)
          have HQ : Hid _ := And.intro True.intro (And.intro True.intro (And.intro hQu (And.intro hQ0 (And.intro hQt (And.intro hQv hQn)))))
          have HU : Hid _ := And.intro hU1 (And.intro hU2 hU3)
          have HI : Hid (is = (!o || p)) := hUi
          have HW : Hid (Below w.heap.size w wc) := H1.out.2.2
          clear hPa hPn hUn hQu hQ0 hQt hQv hQn hU1 hU2 hU3 hUi hUk hUl hinc hla hlen22 hne htl2 hS2 hz2 H1 HL HS hb1
          go_upto_region 18 with fail
          go_wp2_with fail
          refine Calls.mono (HP.out.1 _) ?_
          rintro e w2 ⟨v2, rfl, hw2, hb2⟩
          obtain ⟨x2, c2, rfl⟩ := hw2.form
          have hbA := bel1 w2 (.cells #[.int .i64 A.how, .string (sB A.nt), .slice x2 A.sp.length c2, .int .i64 A.pr] 25)
          have hb2' := HW.out.trans (hb2.mono HW.out.size)
          have H2 : Hid _ := And.intro (nw_heap w2 (.cells #[.int .i64 A.how, .string (sB A.nt), .slice x2 A.sp.length c2, .int .i64 A.pr] 25)) (And.intro (hb2'.trans (hbA.mono hb2'.size)) (TxR.below (WdV.row hw2) hbA))
          clear hw2 hb2 hbA hb2'
          go_upto_region 19 with fail
          generalize (w2.alloc (.cells #[.int .i64 A.how, .string (sB A.nt), .slice x2 A.sp.length c2, .int .i64 A.pr] 25)) = W2 at H2 ⊢
          go_wp2_with fail
          refine Calls.mono (HP.out.2.1 _) ?_
          rintro e w3 ⟨v3, rfl, hw3, hb3⟩
          obtain ⟨x3, c3, rfl⟩ := hw3.form
          have hA3 := (hb3.block _ (lt_of H2.out.1)).trans H2.out.1
          have hbB := bel1 w3 (.cells #[.int .i64 B.how, .string (sB B.nt), .slice x3 B.sp.length c3, .int .i64 B.pr] 25)
          have hbW := H2.out.2.1.trans (hb3.mono H2.out.2.1.size)
          have H3 : Hid _ := And.intro (nw_below (o' := (.cells #[.int .i64 B.how, .string (sB B.nt), .slice x3 B.sp.length c3, .int .i64 B.pr] 25)) hA3) (And.intro (nw_heap w3 (.cells #[.int .i64 B.how, .string (sB B.nt), .slice x3 B.sp.length c3, .int .i64 B.pr] 25)) (And.intro (hbW.trans (hbB.mono hbW.size)) (And.intro ((H2.out.2.2.below hb3).below hbB) (TxR.below (WdV.row hw3) hbB))))
          clear hw3 hb3 hA3 hbB hbW
          go_upto_region 20 with fail
          generalize (w3.alloc (.cells #[.int .i64 B.how, .string (sB B.nt), .slice x3 B.sp.length c3, .int .i64 B.pr] 25)) = W3 at H3 ⊢
          obtain ⟨⟨a0, a1, a2, a3⟩, _⟩ := blk4 H3.out.1
          obtain ⟨⟨b0, b1, b2, b3⟩, _⟩ := blk4 H3.out.2.1
          go_wp2_with fail
          refine Calls.mono (HP.out.2.2 (wdV A (.slice x2 A.sp.length c2)) (wdV B (.slice x3 B.sp.length c3)) _ ⟨_, rfl, H3.out.2.2.2.1⟩ ⟨_, rfl, H3.out.2.2.2.2⟩) ?_
          rintro e w4 ⟨v4, rfl, hw4, hb4⟩
          obtain ⟨x4, c4, rfl⟩ := hw4.form
          clear a0 a1 a2 a3 b0 b1 b2 b3
          have hbU := bel1 w4 (.cells #[.int .i64 U.how, .string (sB U.nt), .slice x4 U.sp.length c4, .int .i64 U.pr] 25)
          have h34 := hb4.trans (hbU.mono hb4.size)
          have H4 : Hid _ := And.intro ((h34.block _ (lt_of H3.out.1)).trans H3.out.1) (And.intro ((h34.block _ (lt_of H3.out.2.1)).trans H3.out.2.1) (And.intro (nw_heap w4 (.cells #[.int .i64 U.how, .string (sB U.nt), .slice x4 U.sp.length c4, .int .i64 U.pr] 25)) (H3.out.2.2.1.trans (h34.mono H3.out.2.2.1.size))))
          have HR : Hid _ := And.intro (TxR.below H3.out.2.2.2.1 h34) (And.intro (TxR.below H3.out.2.2.2.2 h34) (TxR.below (WdV.row hw4) hbU))
          clear hbU h34 hw4 hb4
          have HK : Hid (∀ W, Below (w4.alloc (.cells #[.int .i64 U.how, .string (sB U.nt), .slice x4 U.sp.length c4, .int .i64 U.pr] 25)).heap.size (w4.alloc (.cells #[.int .i64 U.how, .string (sB U.nt), .slice x4 U.sp.length c4, .int .i64 U.pr] 25)) W → (W.cell? ⟨w2.heap.size, 0, none⟩ = some (.int .i64 A.how) ∧ W.cell? ⟨w2.heap.size, 1, none⟩ = some (.string (sB A.nt)) ∧ W.cell? ⟨w2.heap.size, 2, none⟩ = some (.slice x2 A.sp.length c2) ∧ W.cell? ⟨w2.heap.size, 3, none⟩ = some (.int .i64 A.pr) ∧ W.cell? ⟨w3.heap.size, 0, none⟩ = some (.int .i64 B.how) ∧ W.cell? ⟨w3.heap.size, 1, none⟩ = some (.string (sB B.nt)) ∧ W.cell? ⟨w3.heap.size, 2, none⟩ = some (.slice x3 B.sp.length c3) ∧ W.cell? ⟨w3.heap.size, 3, none⟩ = some (.int .i64 B.pr) ∧ W.cell? ⟨w4.heap.size, 0, none⟩ = some (.int .i64 U.how) ∧ W.cell? ⟨w4.heap.size, 1, none⟩ = some (.string (sB U.nt)) ∧ W.cell? ⟨w4.heap.size, 2, none⟩ = some (.slice x4 U.sp.length c4) ∧ W.cell? ⟨w4.heap.size, 3, none⟩ = some (.int .i64 U.pr))) := fun W hW => by
            obtain ⟨⟨a0, a1, a2, a3⟩, _⟩ := blk4 ((hW.block _ (lt_of H4.out.1)).trans H4.out.1)
            obtain ⟨⟨b0, b1, b2, b3⟩, _⟩ := blk4 ((hW.block _ (lt_of H4.out.2.1)).trans H4.out.2.1)
            obtain ⟨⟨u0, u1, u2, u3⟩, _⟩ := blk4 ((hW.block _ (lt_of H4.out.2.2.1)).trans H4.out.2.2.1)
            exact ⟨a0, a1, a2, a3, b0, b1, b2, b3, u0, u1, u2, u3⟩
          have HB : Hid (Below (w4.alloc (.cells #[.int .i64 U.how, .string (sB U.nt), .slice x4 U.sp.length c4, .int .i64 U.pr] 25)).heap.size (w4.alloc (.cells #[.int .i64 U.how, .string (sB U.nt), .slice x4 U.sp.length c4, .int .i64 U.pr] 25)) (w4.alloc (.cells #[.int .i64 U.how, .string (sB U.nt), .slice x4 U.sp.length c4, .int .i64 U.pr] 25))) := Below.refl _ _
          obtain ⟨a0, a1, a2, a3, b0, b1, b2, b3, u0, u1, u2, u3⟩ := HK.out _ HB.out
          have hcv : (convert 47 9 (.slice (some ⟨w4.heap.size + 1, 0, none⟩) 1 1)).run Tryd.prog ((w4.alloc (.cells #[.int .i64 U.how, .string (sB U.nt), .slice x4 U.sp.length c4, .int .i64 U.pr] 25)).alloc (.cells #[.int .u8 (97 + y % 26)] 5)) = .ok (.string (sB [lt6 y])) ((w4.alloc (.cells #[.int .i64 U.how, .string (sB U.nt), .slice x4 U.sp.length c4, .int .i64 U.pr] 25)).alloc (.cells #[.int .u8 (97 + y % 26)] 5)) := by
            have h := conv_one (97 + y % 26) (w4.alloc (.cells #[.int .i64 U.how, .string (sB U.nt), .slice x4 U.sp.length c4, .int .i64 U.pr] 25))
            rw [sza] at h
            exact h
          have hs1 : (sB [lt6 y]).size = 1 := rfl
          have m10 : 0 ≤ y % 26 := Int.emod_nonneg y (by decide)
          have m11 : y % 26 < 26 := Int.emod_lt_of_pos y (by decide)
          have ef : (F == F) = true := beq_self_eq_true F
          have his := HI.out
          cases o
          · cases p
            all_goals
              simp only [Bool.not_true, Bool.not_false, Bool.true_or, Bool.false_or] at his
              subst his
              go_wp2_with (first
                | (go_at_call 19; have hb0 := HB.out.alloc HB.out.size (.cells #[.int .u8 (97 + y % 26)] 5); have hq := HQ.out.2.2.1 (wdV A (.slice x2 A.sp.length c2)) _ ⟨_, rfl, TxR.below HR.out.1 hb0⟩; (with_reducible refine Calls.mono hq ?_); clear hq; rintro e w9 ⟨rfl, hb9⟩; have hbb := hb0.trans (hb9.mono hb0.size); clear HB a0 a1 a2 a3 b0 b1 b2 b3 u0 u1 u2 u3; obtain ⟨a0, a1, a2, a3, b0, b1, b2, b3, u0, u1, u2, u3⟩ := HK.out _ hbb; have HB : Hid _ := hbb; clear hbb hb9 hb0)
                | (go_at_call 19; have hq := HQ.out.2.2.2.1 (wdV A (.slice x2 A.sp.length c2)) _ ⟨_, rfl, TxR.below HR.out.1 HB.out⟩; (with_reducible refine Calls.mono hq ?_); clear hq; rintro e w9 ⟨rfl, hb9⟩; have hbb := HB.out.trans (hb9.mono HB.out.size); clear HB a0 a1 a2 a3 b0 b1 b2 b3 u0 u1 u2 u3; obtain ⟨a0, a1, a2, a3, b0, b1, b2, b3, u0, u1, u2, u3⟩ := HK.out _ hbb; have HB : Hid _ := hbb; clear hbb hb9)
                | (go_at_call 19; have hq := HQ.out.2.2.2.2.1 (wdV A (.slice x2 A.sp.length c2)) _ ⟨_, rfl, TxR.below HR.out.1 HB.out⟩; (with_reducible refine Calls.mono hq ?_); clear hq; rintro e w9 ⟨rfl, hb9⟩; have hbb := HB.out.trans (hb9.mono HB.out.size); clear HB a0 a1 a2 a3 b0 b1 b2 b3 u0 u1 u2 u3; obtain ⟨a0, a1, a2, a3, b0, b1, b2, b3, u0, u1, u2, u3⟩ := HK.out _ hbb; have HB : Hid _ := hbb; clear hbb hb9)
                | (go_at_call 19; have hq := HQ.out.2.2.2.2.2.1 (wdV A (.slice x2 A.sp.length c2)) _ ⟨_, rfl, TxR.below HR.out.1 HB.out⟩; (with_reducible refine Calls.mono hq ?_); clear hq; rintro e w9 ⟨rfl, hb9⟩; have hbb := HB.out.trans (hb9.mono HB.out.size); clear HB a0 a1 a2 a3 b0 b1 b2 b3 u0 u1 u2 u3; obtain ⟨a0, a1, a2, a3, b0, b1, b2, b3, u0, u1, u2, u3⟩ := HK.out _ hbb; have HB : Hid _ := hbb; clear hbb hb9)
                | (go_at_call 19; have hq := HQ.out.2.2.2.2.2.2 (wdV B (.slice x3 B.sp.length c3)) _ ⟨_, rfl, TxR.below HR.out.2.1 HB.out⟩; (with_reducible refine Calls.mono hq ?_); clear hq; rintro e w9 ⟨rfl, hb9⟩; have hbb := HB.out.trans (hb9.mono HB.out.size); clear HB a0 a1 a2 a3 b0 b1 b2 b3 u0 u1 u2 u3; obtain ⟨a0, a1, a2, a3, b0, b1, b2, b3, u0, u1, u2, u3⟩ := HK.out _ hbb; have HB : Hid _ := hbb; clear hbb hb9)
                | (go_at_call 19; have hq := HU.out.1 (by first | exact rfl | trivial) (wdV U (.slice x4 U.sp.length c4)) _ ⟨_, rfl, TxR.below HR.out.2.2 HB.out⟩; (with_reducible refine Calls.mono hq ?_); clear hq; rintro e w9 ⟨rfl, hb9⟩; have hbb := HB.out.trans (hb9.mono HB.out.size); clear HB a0 a1 a2 a3 b0 b1 b2 b3 u0 u1 u2 u3; obtain ⟨a0, a1, a2, a3, b0, b1, b2, b3, u0, u1, u2, u3⟩ := HK.out _ hbb; have HB : Hid _ := hbb; clear hbb hb9)
                | (go_at_call 19; have hq := HU.out.2.1 (by first | exact rfl | trivial) (wdV U (.slice x4 U.sp.length c4)) _ ⟨_, rfl, TxR.below HR.out.2.2 HB.out⟩; (with_reducible refine Calls.mono hq ?_); clear hq; rintro e w9 ⟨rfl, hb9⟩; have hbb := HB.out.trans (hb9.mono HB.out.size); clear HB a0 a1 a2 a3 b0 b1 b2 b3 u0 u1 u2 u3; obtain ⟨a0, a1, a2, a3, b0, b1, b2, b3, u0, u1, u2, u3⟩ := HK.out _ hbb; have HB : Hid _ := hbb; clear hbb hb9)
                | (go_at_call 19; have hq := HU.out.2.2 (by first | exact rfl | trivial) (wdV U (.slice x4 U.sp.length c4)) _ ⟨_, rfl, TxR.below HR.out.2.2 HB.out⟩; (with_reducible refine Calls.mono hq ?_); clear hq; rintro e w9 ⟨rfl, hb9⟩; have hbb := HB.out.trans (hb9.mono HB.out.size); clear HB a0 a1 a2 a3 b0 b1 b2 b3 u0 u1 u2 u3; obtain ⟨a0, a1, a2, a3, b0, b1, b2, b3, u0, u1, u2, u3⟩ := HK.out _ hbb; have HB : Hid _ := hbb; clear hbb hb9))
              all_goals
                go_ret
                exact ⟨rfl, H4.out.2.2.2.trans (HB.out.mono H4.out.2.2.2.size)⟩
          · cases p
            · clear HU
              simp only [Bool.not_true, Bool.not_false, Bool.true_or, Bool.false_or] at his
              subst his
              go_wp2_with (first
                | (go_at_call 19; have hb0 := HB.out.alloc HB.out.size (.cells #[.int .u8 (97 + y % 26)] 5); have hq := HQ.out.2.2.1 (wdV A (.slice x2 A.sp.length c2)) _ ⟨_, rfl, TxR.below HR.out.1 hb0⟩; (with_reducible refine Calls.mono hq ?_); clear hq; rintro e w9 ⟨rfl, hb9⟩; have hbb := hb0.trans (hb9.mono hb0.size); clear HB a0 a1 a2 a3 b0 b1 b2 b3 u0 u1 u2 u3; obtain ⟨a0, a1, a2, a3, b0, b1, b2, b3, u0, u1, u2, u3⟩ := HK.out _ hbb; have HB : Hid _ := hbb; clear hbb hb9 hb0)
                | (go_at_call 19; have hq := HQ.out.2.2.2.1 (wdV A (.slice x2 A.sp.length c2)) _ ⟨_, rfl, TxR.below HR.out.1 HB.out⟩; (with_reducible refine Calls.mono hq ?_); clear hq; rintro e w9 ⟨rfl, hb9⟩; have hbb := HB.out.trans (hb9.mono HB.out.size); clear HB a0 a1 a2 a3 b0 b1 b2 b3 u0 u1 u2 u3; obtain ⟨a0, a1, a2, a3, b0, b1, b2, b3, u0, u1, u2, u3⟩ := HK.out _ hbb; have HB : Hid _ := hbb; clear hbb hb9)
                | (go_at_call 19; have hq := HQ.out.2.2.2.2.1 (wdV A (.slice x2 A.sp.length c2)) _ ⟨_, rfl, TxR.below HR.out.1 HB.out⟩; (with_reducible refine Calls.mono hq ?_); clear hq; rintro e w9 ⟨rfl, hb9⟩; have hbb := HB.out.trans (hb9.mono HB.out.size); clear HB a0 a1 a2 a3 b0 b1 b2 b3 u0 u1 u2 u3; obtain ⟨a0, a1, a2, a3, b0, b1, b2, b3, u0, u1, u2, u3⟩ := HK.out _ hbb; have HB : Hid _ := hbb; clear hbb hb9)
                | (go_at_call 19; have hq := HQ.out.2.2.2.2.2.1 (wdV A (.slice x2 A.sp.length c2)) _ ⟨_, rfl, TxR.below HR.out.1 HB.out⟩; (with_reducible refine Calls.mono hq ?_); clear hq; rintro e w9 ⟨rfl, hb9⟩; have hbb := HB.out.trans (hb9.mono HB.out.size); clear HB a0 a1 a2 a3 b0 b1 b2 b3 u0 u1 u2 u3; obtain ⟨a0, a1, a2, a3, b0, b1, b2, b3, u0, u1, u2, u3⟩ := HK.out _ hbb; have HB : Hid _ := hbb; clear hbb hb9)
                | (go_at_call 19; have hq := HQ.out.2.2.2.2.2.2 (wdV B (.slice x3 B.sp.length c3)) _ ⟨_, rfl, TxR.below HR.out.2.1 HB.out⟩; (with_reducible refine Calls.mono hq ?_); clear hq; rintro e w9 ⟨rfl, hb9⟩; have hbb := HB.out.trans (hb9.mono HB.out.size); clear HB a0 a1 a2 a3 b0 b1 b2 b3 u0 u1 u2 u3; obtain ⟨a0, a1, a2, a3, b0, b1, b2, b3, u0, u1, u2, u3⟩ := HK.out _ hbb; have HB : Hid _ := hbb; clear hbb hb9))
              all_goals
                first
                | (go_ret; exact ⟨rfl, H4.out.2.2.2.trans (HB.out.mono H4.out.2.2.2.size)⟩)
                | (exfalso; injections)
                | (exfalso; simp_all)
            · simp only [Bool.not_true, Bool.not_false, Bool.true_or, Bool.false_or] at his
              subst his
              go_wp2_with (first
                | (go_at_call 19; have hb0 := HB.out.alloc HB.out.size (.cells #[.int .u8 (97 + y % 26)] 5); have hq := HQ.out.2.2.1 (wdV A (.slice x2 A.sp.length c2)) _ ⟨_, rfl, TxR.below HR.out.1 hb0⟩; (with_reducible refine Calls.mono hq ?_); clear hq; rintro e w9 ⟨rfl, hb9⟩; have hbb := hb0.trans (hb9.mono hb0.size); clear HB a0 a1 a2 a3 b0 b1 b2 b3 u0 u1 u2 u3; obtain ⟨a0, a1, a2, a3, b0, b1, b2, b3, u0, u1, u2, u3⟩ := HK.out _ hbb; have HB : Hid _ := hbb; clear hbb hb9 hb0)
                | (go_at_call 19; have hq := HQ.out.2.2.2.1 (wdV A (.slice x2 A.sp.length c2)) _ ⟨_, rfl, TxR.below HR.out.1 HB.out⟩; (with_reducible refine Calls.mono hq ?_); clear hq; rintro e w9 ⟨rfl, hb9⟩; have hbb := HB.out.trans (hb9.mono HB.out.size); clear HB a0 a1 a2 a3 b0 b1 b2 b3 u0 u1 u2 u3; obtain ⟨a0, a1, a2, a3, b0, b1, b2, b3, u0, u1, u2, u3⟩ := HK.out _ hbb; have HB : Hid _ := hbb; clear hbb hb9)
                | (go_at_call 19; have hq := HQ.out.2.2.2.2.1 (wdV A (.slice x2 A.sp.length c2)) _ ⟨_, rfl, TxR.below HR.out.1 HB.out⟩; (with_reducible refine Calls.mono hq ?_); clear hq; rintro e w9 ⟨rfl, hb9⟩; have hbb := HB.out.trans (hb9.mono HB.out.size); clear HB a0 a1 a2 a3 b0 b1 b2 b3 u0 u1 u2 u3; obtain ⟨a0, a1, a2, a3, b0, b1, b2, b3, u0, u1, u2, u3⟩ := HK.out _ hbb; have HB : Hid _ := hbb; clear hbb hb9)
                | (go_at_call 19; have hq := HQ.out.2.2.2.2.2.1 (wdV A (.slice x2 A.sp.length c2)) _ ⟨_, rfl, TxR.below HR.out.1 HB.out⟩; (with_reducible refine Calls.mono hq ?_); clear hq; rintro e w9 ⟨rfl, hb9⟩; have hbb := HB.out.trans (hb9.mono HB.out.size); clear HB a0 a1 a2 a3 b0 b1 b2 b3 u0 u1 u2 u3; obtain ⟨a0, a1, a2, a3, b0, b1, b2, b3, u0, u1, u2, u3⟩ := HK.out _ hbb; have HB : Hid _ := hbb; clear hbb hb9)
                | (go_at_call 19; have hq := HQ.out.2.2.2.2.2.2 (wdV B (.slice x3 B.sp.length c3)) _ ⟨_, rfl, TxR.below HR.out.2.1 HB.out⟩; (with_reducible refine Calls.mono hq ?_); clear hq; rintro e w9 ⟨rfl, hb9⟩; have hbb := HB.out.trans (hb9.mono HB.out.size); clear HB a0 a1 a2 a3 b0 b1 b2 b3 u0 u1 u2 u3; obtain ⟨a0, a1, a2, a3, b0, b1, b2, b3, u0, u1, u2, u3⟩ := HK.out _ hbb; have HB : Hid _ := hbb; clear hbb hb9)
                | (go_at_call 19; have hq := HU.out.1 (by first | exact rfl | trivial) (wdV U (.slice x4 U.sp.length c4)) _ ⟨_, rfl, TxR.below HR.out.2.2 HB.out⟩; (with_reducible refine Calls.mono hq ?_); clear hq; rintro e w9 ⟨rfl, hb9⟩; have hbb := HB.out.trans (hb9.mono HB.out.size); clear HB a0 a1 a2 a3 b0 b1 b2 b3 u0 u1 u2 u3; obtain ⟨a0, a1, a2, a3, b0, b1, b2, b3, u0, u1, u2, u3⟩ := HK.out _ hbb; have HB : Hid _ := hbb; clear hbb hb9)
                | (go_at_call 19; have hq := HU.out.2.1 (by first | exact rfl | trivial) (wdV U (.slice x4 U.sp.length c4)) _ ⟨_, rfl, TxR.below HR.out.2.2 HB.out⟩; (with_reducible refine Calls.mono hq ?_); clear hq; rintro e w9 ⟨rfl, hb9⟩; have hbb := HB.out.trans (hb9.mono HB.out.size); clear HB a0 a1 a2 a3 b0 b1 b2 b3 u0 u1 u2 u3; obtain ⟨a0, a1, a2, a3, b0, b1, b2, b3, u0, u1, u2, u3⟩ := HK.out _ hbb; have HB : Hid _ := hbb; clear hbb hb9)
                | (go_at_call 19; have hq := HU.out.2.2 (by first | exact rfl | trivial) (wdV U (.slice x4 U.sp.length c4)) _ ⟨_, rfl, TxR.below HR.out.2.2 HB.out⟩; (with_reducible refine Calls.mono hq ?_); clear hq; rintro e w9 ⟨rfl, hb9⟩; have hbb := HB.out.trans (hb9.mono HB.out.size); clear HB a0 a1 a2 a3 b0 b1 b2 b3 u0 u1 u2 u3; obtain ⟨a0, a1, a2, a3, b0, b1, b2, b3, u0, u1, u2, u3⟩ := HK.out _ hbb; have HB : Hid _ := hbb; clear hbb hb9))
              all_goals
                go_ret
                exact ⟨rfl, H4.out.2.2.2.trans (HB.out.mono H4.out.2.2.2.size)⟩
end Go.Proofs.YtknfipcegmajaaaDoor
