/- The walk of XmlNests. -/
import Derived.Test.YtjcgnbmpnaapdaaDoorLim
namespace Go.Proofs.YtjcgnbmpnaapdaaDoor
open Go.RowKit
set_option linter.unusedVariables false

theorem EvC.get2 {B : Nat} {w : World} : ∀ {es : List Ev} {xs : List Value} (i : Nat) (e : Ev), EvC B w es xs → es[i]? = some e → ∃ sv, AR B w sv e.attrs ∧ EvOk e ∧ xs[i * 5 + 2]? = some (.string (sb e.name)) ∧ xs[i * 5 + 3]? = some (.string (sb e.text)) ∧ xs[i * 5 + 4]? = some sv
  | [], xs, i, e, h, he => by simp at he
  | a :: es, xs, 0, e, h, he => by
    obtain ⟨sv, ys, rfl, h1, _⟩ := h
    simp at he
    subst he
    exact ⟨sv, h1.1, h1.2, rfl, rfl, rfl⟩
  | a :: es, xs, i + 1, e, h, he => by
    obtain ⟨sv, ys, rfl, _, h2⟩ := h
    obtain ⟨sv', h3, h4, h5, h6, h7⟩ := EvC.get2 i e h2 (by simpa using he)
    have l5 : (evHead a sv).length = 5 := rfl
    refine ⟨sv', h3, h4, ?_, ?_, ?_⟩
    · rw [List.getElem?_append_right (by omega), ← h5]; congr 1; omega
    · rw [List.getElem?_append_right (by omega), ← h6]; congr 1; omega
    · rw [List.getElem?_append_right (by omega), ← h7]; congr 1; omega
/-- The five cells of an event. -/
structure EvAt (w : World) (g o : Nat) (e : Ev) : Prop where
  c0 : w.cell? ⟨g, o, none⟩ = some (.int .i64 e.kind)
  c1 : w.cell? ⟨g, o + 1, none⟩ = some (.int .i64 e.place)
  c2 : w.cell? ⟨g, o + 2, none⟩ = some (.string (sb e.name))
  c3 : w.cell? ⟨g, o + 3, none⟩ = some (.string (sb e.text))
/-- Events, as a law reads them: kinds, places, names, texts. -/
structure ET (w : World) (sv : Value) (es : List Ev) : Prop where
  f : ∃ a cap, sv = .slice a es.length cap ∧ es.length ≤ cap ∧ cap ≤ maxLen ∧ (es ≠ [] → ∃ g off, a = some ⟨g, off, none⟩ ∧ g < w.heap.size ∧ ∀ i e, es[i]? = some e → EvAt w g (off + i * 5) e)
theorem ET.of {B : Nat} {w : World} {sv : Value} {es : List Ev} {xs : List Value} (h : RR B w sv es.length xs) (hc : EvC B w es xs) : ET w sv es := by
  rcases h with ⟨rfl, h0, _⟩ | ⟨g, off, cap, rfl, _, ⟨cur, hcur, _⟩, h1, h2, h3, h4⟩
  · have : es = [] := List.eq_nil_of_length_eq_zero h0
    exact ⟨none, 0, by rw [h0], by omega, by unfold maxLen; omega, fun h => absurd this h⟩
  · refine ⟨_, cap, rfl, h1, h2, fun _ => ⟨g, off, rfl, (Array.getElem?_eq_some_iff.1 hcur).1, fun i e he => ?_⟩⟩
    have hi : i < es.length := (List.getElem?_eq_some_iff.1 he).1
    have h5 := EvC.get i e hc he
    obtain ⟨sv, _, _, h6, h7, _⟩ := EvC.get2 i e hc he
    exact ⟨(h4 (i * 5) (by omega)).trans h5.1, (h4 (i * 5 + 1) (by omega)).trans h5.2, (h4 (i * 5 + 2) (by omega)).trans h6, (h4 (i * 5 + 3) (by omega)).trans h7⟩
theorem EvAt.below {w w' : World} {g o : Nat} {e : Ev} (h : EvAt w g o e) (hb : Below w.heap.size w w') : EvAt w' g o e := ⟨blk_cell hb h.c0, blk_cell hb h.c1, blk_cell hb h.c2, blk_cell hb h.c3⟩
theorem allS_len : ∀ (n : Nat) (b : Bs) (L : Lm) (s : S) (acc : List Ev), (allS n b L s acc).1.length ≤ acc.length + n
  | 0, b, L, s, acc => by simp [allS]
  | n + 1, b, L, s, acc => by
    rw [allS]
    split
    · simp
    · rename_i e s' _
      have := allS_len n b L s' (acc ++ [e])
      rw [List.length_append] at this
      simp at this
      omega
theorem allB_len (b : Bs) (L : Lm) : (allB b L).1.length ≤ 300000 := by
  unfold allB
  split
  · simp
  · have := allS_len (4 * b.length + 3) b L s0 []
    simp at this
    omega
theorem sb_nil {l : Bs} (h : l ≠ []) : ((sb l).toList == (⟨#[]⟩ : ByteArray).toList) = false := by
  cases he : ((sb l).toList == (⟨#[]⟩ : ByteArray).toList) with
  | false => rfl
  | true =>
    exfalso
    have h1 : (sb l).toList = (⟨#[]⟩ : ByteArray).toList := by simpa using he
    rw [Lib.toList_data, Lib.toList_data] at h1
    have h2 : l.length = 0 := by
      have := congrArg List.length h1
      simpa [sb] using this
    exact h (List.eq_nil_of_length_eq_zero h2)
theorem nst_inv {op : List Bs} {roots pk pa : Int} {e : Ev} {es : List Ev} {r : List Bs × Int} (h : M.nst op roots pk pa (e :: es) = some r) : pa ≤ e.place ∧
    ((e.kind = 1 ∧ M.nst (op ++ [e.name]) (if op = [] then roots + 1 else roots) 1 e.place es = some r) ∨
     (e.kind = 2 ∧ op ≠ [] ∧ op.getLastD [] = e.name ∧ M.nst op.dropLast roots 2 e.place es = some r) ∨
     (e.kind = 3 ∧ op ≠ [] ∧ e.text ≠ [] ∧ pk ≠ 3 ∧ M.nst op roots 3 e.place es = some r)) := by
  rw [M.nst] at h
  by_cases h0 : e.place < pa
  · rw [if_pos h0] at h; cases h
  rw [if_neg h0] at h
  refine ⟨by omega, ?_⟩
  by_cases h1 : e.kind = 1
  · rw [if_pos h1] at h; exact .inl ⟨h1, h⟩
  rw [if_neg h1] at h
  by_cases h2 : e.kind = 2
  · rw [if_pos h2] at h
    by_cases h3 : op = [] ∨ op.getLastD [] ≠ e.name
    · rw [if_pos h3] at h; cases h
    · rw [if_neg h3] at h
      exact .inr (.inl ⟨h2, fun q => h3 (.inl q), Classical.byContradiction fun q => h3 (.inr q), h⟩)
  rw [if_neg h2] at h
  by_cases h3 : e.kind = 3
  · rw [if_pos h3] at h
    by_cases h4 : op = [] ∨ e.text = [] ∨ pk = 3
    · rw [if_pos h4] at h; cases h
    · rw [if_neg h4] at h
      exact .inr (.inr ⟨h3, fun q => h4 (.inl q), fun q => h4 (.inr (.inl q)), fun q => h4 (.inr (.inr q)), h⟩)
  · rw [if_neg h3] at h; cases h
/-- The loop's head. -/
structure NI (es : List Ev) (F : List Bs × Int) (w4 : World) (i : Nat) (ov : Value) (op : List Bs) (roots pk pa : Int) (wr : World) : Prop where
  row : NR w4.heap.size wr ov op
  bel : Below w4.heap.size w4 wr
  ln : op.length ≤ i
  r0 : 0 ≤ roots
  r1 : roots ≤ i
  z : i = 0 → pk = 0 ∧ pa = 0
  pv : ∀ j, i = j + 1 → ∃ e, es[j]? = some e ∧ e.kind = pk ∧ e.place = pa
  n : M.nst op roots pk pa (es.drop i) = some F
theorem NI.start {es : List Ev} {F : List Bs × Int} {w4 : World} (h : M.nst [] 0 0 0 es = some F) : NI es F w4 0 (.slice none 0 0) [] 0 0 0 w4 :=
  ⟨⟨rfl, .inl ⟨rfl, rfl⟩⟩, Below.refl _ _, Nat.le_refl _, Int.le_refl _, Int.le_refl _, fun _ => ⟨rfl, rfl⟩, fun j hj => by omega, h⟩
theorem NR.zero {B : Nat} {w : World} {v : Value} (h : NR B w v []) : ∃ a c, v = .slice a 0 c := by
  rcases h.2 with ⟨rfl, _⟩ | ⟨g, cap, cur, rfl, _⟩
  · exact ⟨_, _, rfl⟩
  · exact ⟨_, _, rfl⟩
theorem belN {N : Nat} {w w' : World} (h : Below N w w') (n : Nat) : Below N w (w'.drewN n) := ⟨h.os, h.tape, h.output, h.size, h.block⟩
theorem NR.snoc {B : Nat} {w : World} {v : Value} {op : List Bs} {en : Bs} (h : w.ownsRow B 9 1 v (op.length + 1) (nmCells op ++ [.string (sb en)])) : NR B w v (op ++ [en]) := by
  show World.ownsRow _ _ _ _ _ _ _
  rw [nmCells, List.map_append, List.length_append]
  exact h
theorem long_any {w : World} {a : Option Addr} {n c : Nat} : Calls Tryd.prog 13 #[.slice a n c] w fun e w' => LongP e ∧ w' = w := by
  by_cases h : 3000 < n
  · exact long_s h
  · exact (short_s (by omega)).mono fun e w' ⟨h1, h2⟩ => ⟨⟨false, h1⟩, h2⟩
set_option maxRecDepth 100000 in
set_option maxHeartbeats 6400000 in
theorem nests_walk {w : World} {vb : Value} {l : Bs} (h : BI w vb l) (hT : Tab w) :
    Calls Tryd.prog 4 #[vb] w fun e w' => e = .returned (.bool true) ∧ Below w.heap.size w w' := by
  obtain ⟨sa, sc, hv⟩ : ∃ sa sc, vb = .slice sa l.length sc := by
    rcases h.fm with ⟨rfl, rfl⟩ | ⟨A, c, rfl, _⟩
    · exact ⟨none, 0, rfl⟩
    · exact ⟨_, c, rfl⟩
  subst hv
  have h0 : 0 < w.heap.size := World.block_lt_of_cell? w _ hT.a
  have HT : Hid _ := hT
  have HB : Hid _ := h
  clear h hT
  go_enter Tryd.func4, Tryd.ntmps4
  go_wp2_with fail
  refine (known_s HT.out).mono ?_
  rintro e w2 ⟨rfl, hb2⟩
  have HB2 : Hid _ := hb2
  clear hb2
  go_wp2_with fail
  refine (long_any (w := w2) (a := sa) (c := sc)).mono ?_
  rintro e w3 ⟨⟨b, rfl⟩, rfl⟩
  cases b
  case true =>
    go_wp2_with fail
    go_ret
    exact ⟨rfl, HB2.out⟩
  go_wp2_with fail
  refine (all_b 0 0 0 0 0 0 (HB.out.below HB2.out) (HT.out.lower HB2.out (by omega))).mono ?_
  rintro e w4 ⟨B4, sv4, xs4, rfl, hB4, hr4, hc4, hb4⟩
  have hz2 := HB2.out.size
  have hz4 := hb4.size
  have HF : Hid _ := HB2.out.trans (hb4.mono (by omega))
  have HE : Hid _ := ET.of hr4 hc4
  have hB : w.heap.size ≤ w4.heap.size := by omega
  clear hr4 hc4 hb4
  obtain ⟨a4, cap4, rfl, hn4, hm4, hg4⟩ := HE.out.f
  obtain ⟨opF, rootsF, hnst, hrF, hend⟩ := M.all_nst l (limS 0 0 0 0)
  have hlen := allB_len l (limS 0 0 0 0)
  generalize allB l (limS 0 0 0 0) = X4 at *
  obtain ⟨es, p4, c4⟩ := X4
  dsimp only at *
  unfold maxLen at hm4
  have HG : Hid _ := hg4
  have HN : Hid _ := hnst
  have HEnd : Hid _ := And.intro hrF hend
  clear hg4 hnst hrF hend
  go_wp2_with fail
  go_loopg [6, 7, 8] es.length (fun m v6 v7 v8 wr => ∃ (i : Nat) (op : List Bs) (roots pk pa : Int), v7 = .int .i64 roots ∧ v8 = .int .i64 i ∧ i + m = es.length ∧ NI es (opF, rootsF) w4 i v6 op roots pk pa wr)
  case atStart => exact ⟨0, [], 0, 0, 0, rfl, rfl, by omega, NI.start HN.out⟩
  case round =>
    obtain ⟨i, op, roots, pk, pa, rfl, rfl, him, hI⟩ := hrel
    have HI : Hid _ := hI
    obtain ⟨ao, oc, rfl⟩ := hI.row.len
    have hr0 := hI.r0
    have hr1 := hI.r1
    have hln := hI.ln
    have hbz := hI.bel.size
    by_cases hi : i < es.length
    · obtain ⟨m, rfl⟩ : ∃ m, gk = m + 1 := ⟨gk - 1, by omega⟩
      have hnil : es ≠ [] := by rintro rfl; simp at hi
      obtain ⟨g4, o4, rfl, hg4, hk4⟩ := HG.out hnil
      obtain ⟨e, he⟩ : ∃ e, es[i]? = some e := ⟨_, List.getElem?_eq_getElem hi⟩
      have hdrop : es.drop i = e :: es.drop (i + 1) := by
        obtain ⟨h1, h2⟩ := List.getElem?_eq_some_iff.1 he
        rw [← h2, List.getElem_cons_drop]
      have hnst := hI.n
      rw [hdrop] at hnst
      obtain ⟨hpl, hcase⟩ := nst_inv hnst
      have hev := (hk4 i e he).below hI.bel
      have x0 := hev.c0
      have x1 := hev.c1
      have x2 := hev.c2
      have x3 := hev.c3
      have hiI : (i : Int) < (es.length : Int) := by omega
      have hi0 : (0 : Int) ≤ (i : Int) := by omega
      have HK : Hid _ := hk4
      have HEv : Hid _ := he
      clear hk4 he hev hI hnst hdrop hnil
      obtain ⟨ek, ep, en, et, ea⟩ := e
      dsimp only at *
      have hprev : i = 0 ∨ (0 < i ∧ ∃ e', es[i - 1]? = some e' ∧ e'.kind = pk ∧ e'.place = pa) := by
        rcases Nat.eq_zero_or_pos i with h | h
        · exact .inl h
        · exact .inr ⟨h, HI.out.pv (i - 1) (by omega)⟩
      obtain ⟨j0, hj, hz0, hz1, hz2⟩ := info9p
      rcases hcase with ⟨rfl, hn⟩ | ⟨rfl, hop, hla, hn⟩ | ⟨rfl, hop, ht, hpk, hn⟩
      · have HNN : Hid _ := hn
        clear hn
        by_cases hop : op = []
        · have hop0 : (op.length : Int) = 0 := by rw [hop]; rfl
          rcases hprev with hi00 | ⟨hip, e1, he1, hpk1, hpa1⟩
          · subst hi00
            simp only [Nat.zero_mul, Nat.add_zero] at x0 x1 x2 x3
            go_wp2_with (first | (at_builtin; refine wpList_append_lies _ rfl (.tmp 38) (.tmp 44) 40 rfl w4.heap.size 9 j0 (.string ⟨#[]⟩) 1 16 Tryd.underlying40 hj hz0 hz1 hz2 rfl (by decide) (.slice ao op.length oc) op.length (nmCells op) rfl (World.ownsRow.alloc HI.out.row _) ⟨wr.heap.size, 0, none⟩ 1 1 [.string (sb en)] rfl rfl (cell_one_new _ _ _) (by intro u hu; simp at hu; subst hu; rfl) (by decide) (by unfold maxLen; omega) (by omega) (by simp; omega) _ rfl ?_; intro g cap w5 hown5 hg5 hat hlt5; have hb5 : Below w4.heap.size w4 w5 := (HI.out.bel.alloc hbz _).grown hg5 (by simp; omega) (fun k hk => (HI.out.row.lt k hk).1); have HW5 : Hid _ := And.intro hown5 hb5; have y1 := ((HK.out 0 _ HEv.out).below hb5).c1; simp only [Nat.zero_mul, Nat.add_zero] at y1;  clear hown5 hg5 hat hlt5 hb5 x0 x1 x2 x3))
            go_quiet (fail)
            go_wp2_with fail
            go_roundg m
            case measure => omega
            case rel =>
              refine ⟨0 + 1, op ++ [en], _, 1, ep, rfl, by simp, by omega, ⟨?_, belN HW5.out.2 _, by first | (simp; omega) | omega, by omega, by push_cast; omega, fun h => by omega, fun j hj => ⟨⟨1, ep, en, et, ea⟩, by obtain rfl : j = 0 := (by omega); exact HEv.out, rfl, rfl⟩, ?_⟩⟩
              · exact NR.snoc (w := w5) (by have q := HW5.out.1; rw [hop] at q ⊢; exact q)
              · have q := HNN.out; simpa [hop] using q
          · have hi1 : ((i - 1 : Nat) : Int) = (i : Int) - 1 := by omega
            have hgd : decide (0 < (i : Int)) = true := by simp; omega
            have hgd2 : decide (ep < pa) = false := by simp; omega
            have hgi : (0 : Int) ≤ (i : Int) - 1 := by omega
            obtain ⟨k1, p1, n1, t1, a1⟩ := e1
            dsimp only at hpk1 hpa1
            subst hpk1 hpa1
            have HPr : Hid _ := he1
            clear he1
            go_wp2_with (first | (at_builtin; refine wpList_append_lies _ rfl (.tmp 38) (.tmp 44) 40 rfl w4.heap.size 9 j0 (.string ⟨#[]⟩) 1 16 Tryd.underlying40 hj hz0 hz1 hz2 rfl (by decide) (.slice ao op.length oc) op.length (nmCells op) rfl (World.ownsRow.alloc HI.out.row _) ⟨wr.heap.size, 0, none⟩ 1 1 [.string (sb en)] rfl rfl (cell_one_new _ _ _) (by intro u hu; simp at hu; subst hu; rfl) (by decide) (by unfold maxLen; omega) (by omega) (by simp; omega) _ rfl ?_; intro g cap w5 hown5 hg5 hat hlt5; have hb5 : Below w4.heap.size w4 w5 := (HI.out.bel.alloc hbz _).grown hg5 (by simp; omega) (fun k hk => (HI.out.row.lt k hk).1); have HW5 : Hid _ := And.intro hown5 hb5; have y1 := ((HK.out i _ HEv.out).below hb5).c1; have z1 := ((HK.out (i - 1) _ HPr.out).below hb5).c1; dsimp only at z1; clear hown5 hg5 hat hlt5 hb5 x0 x1 x2 x3))
            go_quiet (fail)
            go_wp2_with fail
            go_roundg m
            case measure => omega
            case rel =>
              refine ⟨i + 1, op ++ [en], _, 1, ep, rfl, by simp, by omega, ⟨?_, belN HW5.out.2 _, by first | (simp; omega) | omega, by omega, by push_cast; omega, fun h => by omega, fun j hj => ⟨⟨1, ep, en, et, ea⟩, by obtain rfl : j = i := (by omega); exact HEv.out, rfl, rfl⟩, ?_⟩⟩
              · exact NR.snoc (w := w5) (by have q := HW5.out.1; rw [hop] at q ⊢; exact q)
              · have q := HNN.out; simpa [hop] using q
        · have hop0 : ¬ (op.length : Int) = 0 := by intro h; exact hop (List.eq_nil_of_length_eq_zero (by omega))
          rcases hprev with hi00 | ⟨hip, e1, he1, hpk1, hpa1⟩
          · exact absurd (List.eq_nil_of_length_eq_zero (by omega)) hop
          · have hi1 : ((i - 1 : Nat) : Int) = (i : Int) - 1 := by omega
            have hgd : decide (0 < (i : Int)) = true := by simp; omega
            have hgd2 : decide (ep < pa) = false := by simp; omega
            have hgi : (0 : Int) ≤ (i : Int) - 1 := by omega
            obtain ⟨k1, p1, n1, t1, a1⟩ := e1
            dsimp only at hpk1 hpa1
            subst hpk1 hpa1
            have HPr : Hid _ := he1
            clear he1
            go_wp2_with (first | (at_builtin; refine wpList_append_lies _ rfl (.tmp 38) (.tmp 44) 40 rfl w4.heap.size 9 j0 (.string ⟨#[]⟩) 1 16 Tryd.underlying40 hj hz0 hz1 hz2 rfl (by decide) (.slice ao op.length oc) op.length (nmCells op) rfl (World.ownsRow.alloc HI.out.row _) ⟨wr.heap.size, 0, none⟩ 1 1 [.string (sb en)] rfl rfl (cell_one_new _ _ _) (by intro u hu; simp at hu; subst hu; rfl) (by decide) (by unfold maxLen; omega) (by omega) (by simp; omega) _ rfl ?_; intro g cap w5 hown5 hg5 hat hlt5; have hb5 : Below w4.heap.size w4 w5 := (HI.out.bel.alloc hbz _).grown hg5 (by simp; omega) (fun k hk => (HI.out.row.lt k hk).1); have HW5 : Hid _ := And.intro hown5 hb5; have y1 := ((HK.out i _ HEv.out).below hb5).c1; have z1 := ((HK.out (i - 1) _ HPr.out).below hb5).c1; dsimp only at z1; clear hown5 hg5 hat hlt5 hb5 x0 x1 x2 x3))
            go_quiet (fail)
            go_wp2_with fail
            go_roundg m
            case measure => omega
            case rel =>
              refine ⟨i + 1, op ++ [en], _, 1, ep, rfl, by simp, by omega, ⟨?_, belN HW5.out.2 _, by first | (simp; omega) | omega, by omega, by push_cast; omega, fun h => by omega, fun j hj => ⟨⟨1, ep, en, et, ea⟩, by obtain rfl : j = i := (by omega); exact HEv.out, rfl, rfl⟩, ?_⟩⟩
              · exact NR.snoc (w := w5) HW5.out.1
              · have q := HNN.out; simpa [hop] using q
      · have HNN : Hid _ := hn
        clear hn
        have hop1 : 0 < op.length := List.length_pos_iff.2 hop
        obtain ⟨og, ocap, hov, hoc1, hoc2, hog, hocell⟩ := NR.form HI.out.row hop1
        rw [hla] at hocell
        have hpop := HI.out.row
        rw [hov] at hpop
        have HPop : Hid _ := NR.pop hpop hop1
        clear hpop
        cases hov
        have hop0 : ¬ (op.length : Int) = 0 := by omega
        have hgo : decide ((op.length : Int) = 0) = false := by simpa using hop
        have hol0 : (0 : Int) ≤ (op.length : Int) - 1 := by omega
        have hol : ((op.length - 1 : Nat) : Int) = (op.length : Int) - 1 := by omega
        have hsn : (decide ((sb en).toList = (sb en).toList)) = true := by simp
        unfold maxLen at hoc2
        have HOP : Hid _ := hop
        clear hop hla hgo
        generalize hN : op.length = N at *
        have hol1 : (N : Int) - 1 < (N : Int) := by omega
        have hgo : ((N : Int) == 0) = false := by simp; omega
        rcases hprev with hi00 | ⟨hip, e1, he1, hpk1, hpa1⟩
        · exact absurd (List.eq_nil_of_length_eq_zero (by omega)) HOP.out
        · have hi1 : ((i - 1 : Nat) : Int) = (i : Int) - 1 := by omega
          have hgd : decide (0 < (i : Int)) = true := by simp; omega
          have hgd2 : decide (ep < pa) = false := by simp; omega
          have hgi : (0 : Int) ≤ (i : Int) - 1 := by omega
          obtain ⟨k1, p1, n1, t1, a1⟩ := e1
          dsimp only at hpk1 hpa1
          subst hpk1 hpa1
          have HPr : Hid _ := he1
          clear he1
          have z1 := ((HK.out (i - 1) _ HPr.out).below HI.out.bel).c1
          dsimp only at z1
          go_wp2_with fail
          go_quiet (fail)
          go_wp2_with fail
          go_quiet (fail)
          go_wp2_with fail
          go_roundg m
          case measure => omega
          case rel =>
            refine ⟨i + 1, op.dropLast, _, 2, ep, rfl, by simp, by omega, ⟨?_, belN HI.out.bel _, by first | (simp; omega) | omega, by omega, by push_cast; omega, fun h => by omega, fun j hj => ⟨⟨2, ep, en, et, ea⟩, by obtain rfl : j = i := (by omega); exact HEv.out, rfl, rfl⟩, ?_⟩⟩
            · exact HPop.out
            · have q := HNN.out; simpa using q
      · have HNN : Hid _ := hn
        clear hn
        have hop1 : 0 < op.length := List.length_pos_iff.2 hop
        have hop0 : ¬ (op.length : Int) = 0 := by omega
        have hsn := sb_nil ht
        have HOP : Hid _ := hop
        clear hop
        generalize hN : op.length = N at *
        have hsn3 : ¬ (sb et).toList = [] := by intro q; rw [q] at hsn; simp at hsn
        have hsn2 : ¬ sb et = ⟨#[]⟩ := by intro q; rw [q] at hsn; simp at hsn
        rcases hprev with hi00 | ⟨hip, e1, he1, hpk1, hpa1⟩
        · exact absurd (List.eq_nil_of_length_eq_zero (by omega)) HOP.out
        · have hi1 : ((i - 1 : Nat) : Int) = (i : Int) - 1 := by omega
          have hgd : decide (0 < (i : Int)) = true := by simp; omega
          have hgd2 : decide (ep < pa) = false := by simp; omega
          have hgi : (0 : Int) ≤ (i : Int) - 1 := by omega
          obtain ⟨k1, p1, n1, t1, a1⟩ := e1
          dsimp only at hpk1 hpa1
          subst hpk1 hpa1
          have HPr : Hid _ := he1
          clear he1
          have z1 := ((HK.out (i - 1) _ HPr.out).below HI.out.bel).c1
          have z0 := ((HK.out (i - 1) _ HPr.out).below HI.out.bel).c0
          dsimp only at z1 z0
          have hgd3 : decide (k1 = 3) = false := by simpa using hpk
          go_wp2_with fail
          · rename_i hx
            exfalso
            rcases hx with (hx | hx) | hx
            · simp at hx; omega
            · exact hsn3 (by simpa using hx)
            · exact hpk (by simpa using hx)
          go_quiet (fail)
          go_wp2_with fail
          go_roundg m
          case measure => omega
          case rel =>
            refine ⟨i + 1, op, _, 3, ep, rfl, by simp, by omega, ⟨?_, belN HI.out.bel _, by first | (simp; omega) | omega, by omega, by push_cast; omega, fun h => by omega, fun j hj => ⟨⟨3, ep, en, et, ea⟩, by obtain rfl : j = i := (by omega); exact HEv.out, rfl, rfl⟩, ?_⟩⟩
            · exact HI.out.row
            · have q := HNN.out; simpa using q
    · obtain rfl : i = es.length := by omega
      have hn := HI.out.n
      rw [List.drop_length] at hn
      have hn2 : op = opF ∧ roots = rootsF := by
        rw [M.nst] at hn
        simpa using hn
      obtain ⟨rfl, rfl⟩ := hn2
      have hE := HEnd.out
      clear hI hn
      obtain ⟨hE1, hE2 | ⟨hE2, hE3⟩⟩ := hE
      · go_wp2_with fail
        go_ret
        exact ⟨rfl, HF.out.trans (HI.out.bel.mono hB)⟩
      · have hE4 : op.length = 0 := by rw [hE3]; rfl
        subst hE2
        by_cases hc4 : c4 = 0
        · go_wp2_with fail
          go_ret
          exact ⟨rfl, HF.out.trans (HI.out.bel.mono hB)⟩
        · go_wp2_with fail
          go_ret
          exact ⟨rfl, HF.out.trans (HI.out.bel.mono hB)⟩
end Go.Proofs.YtjcgnbmpnaapdaaDoor
