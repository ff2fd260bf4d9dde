/- The second telling's Open. -/
import Derived.Test.YtgidbmiahckleaaRfh
namespace Go.Proofs.Ytgidbmiahckleaa
open Go.RowKit
set_option linter.unusedVariables false

set_option maxRecDepth 100000 in
set_option maxHeartbeats 6400000 in
theorem open_r {w : World} {Q : Nat} {L : List Bs} {B : Nat → Prop} (hR : RSO B w Q L) (k pl : Int) (nm tx : ByteArray) (hnm : nm.size ≤ 100000) {a : Option Addr} {c : Nat} {ats : Ats} (hA : AtO w a ats) (hl : ats.length ≤ 1000000) (hL : L.length ≤ 1000000) (hs : ∀ x ∈ ats, x.1.size ≤ 100000) :
    Calls Try.prog 13 #[.pointer (some ⟨Q, 0, none⟩), evV k pl nm tx a ats.length c] w (OpQ B w Q L nm pl ats) := by
  obtain ⟨i88, z88, hi88, hz0, hzc, hz1, hz3⟩ := info88p
  obtain ⟨i64, z64, hi64, hy0, hyc, hy1, hy3⟩ := info64p
  obtain ⟨i90, z90, hi90, hx0, hxc, hx1, hx3⟩ := info90p
  have HR : Hid (RSO B w Q L ∧ AtO w a ats ∧ ∀ x ∈ ats, x.1.size ≤ 100000) := ⟨hR, hA, hs⟩
  clear hR hA hs
  go_enter Try.func13, Try.ntmps13
  go_wp2_with fail
  go_loopg [7, 8] ats.length (fun m v7 v8 wr => ∃ (i : Nat) (lb : Bs), v8 = .int .i64 i ∧ i + m = ats.length ∧ O1 w k pl nm tx (.slice a ats.length c) ats i lb v7 wr)
  case atStart =>
    refine ⟨0, [], rfl, by omega, xa2 _ _ _, ?_, ⟨rfl, .inl ⟨rfl, rfl⟩⟩, ((Below.refl _ _).alloc (Nat.le_refl _) _).alloc (by simp) _, rfl, by simp⟩
    have := nw_heap (w.alloc (.cells #[.int .i64 k, .int .i64 pl, .string nm, .string tx, .slice a ats.length c] 51)) (.cells #[.string ⟨#[]⟩, .string ⟨#[]⟩, .slice none 0 0, .int .i64 0] 46)
    rwa [sza] at this
  case round =>
    obtain ⟨i, lb, rfl, him, hI⟩ := hrel
    obtain ⟨va, vc, rfl⟩ := row_form hI.row
    have e4 := (bl5 hI.e).1.2.2.2.2
    obtain ⟨⟨t0, t1, t2, t3⟩, f0, f1, f2, f3⟩ := bl4 hI.z
    by_cases hi : i < ats.length
    · obtain ⟨m, rfl⟩ : ∃ m, gk = m + 1 := ⟨gk - 1, by omega⟩
      rcases HR.out.2.1 with he | ⟨g, off, rfl, hgl, _, hac⟩
      · rw [he] at hi; simp at hi
      obtain ⟨q0, q1, q2, _⟩ := hac i hi
      have hsz := HR.out.2.2 _ (List.getElem_mem hi)
      have x0 := (hI.bel.cell (p := ⟨g, off + i * 3, none⟩) hgl).trans q0
      have x1 := (hI.bel.cell (p := ⟨g, off + i * 3 + 1, none⟩) hgl).trans q1
      have x2 := (hI.bel.cell (p := ⟨g, off + i * 3 + 2, none⟩) hgl).trans q2
      have hd : ats.drop i = ats[i]'hi :: ats.drop (i + 1) := List.drop_eq_getElem_cons hi
      have heq := hI.eq
      rw [hd, rgo1] at heq
      clear hac q0 q1 q2 hd
      generalize (ats[i]'hi) = A at *
      obtain ⟨an, av, ap⟩ := A
      dsimp only at *
      have HB := rbinds_s an wr (by unfold maxLen; omega)
      have hbs := binR_size an
      generalize binR an = R at *
      obtain ⟨bp, bb⟩ := R
      dsimp only at *
      have HB2 := rbad_s bp an av wr (by omega)
      have HI : Hid _ := And.intro hI (And.intro heq (And.intro HB HB2))
      clear hI heq HB HB2
      go_wp2_with fail
      refine Calls.mono HI.out.2.2.1 ?_
      rintro e w3 ⟨rfl, hw3⟩
      subst hw3
      cases bb
      · by_cases hx : an = xnB
        · have HE : Hid (rgo1 ats [] = .error ap) := by
            show _ = _
            rw [HI.out.2.1, if_pos rfl, if_pos hx]
          subst hx
          unfold xnB at x0
          go_upto_region 8 with fail
          go_region
          go_wp2_with fail
          obtain ⟨q1, q2⟩ := set4b (HI.out.1.bel) (Nat.le_add_right _ 1) (HI.out.1.z) (.string ⟨#[]⟩) (.string ⟨#[]⟩) (.slice none 0 0) (.int .i64 0)
          generalize ((((w3.setCell ⟨w.heap.size + 1, 0, none⟩ (.string ⟨#[]⟩)).setCell ⟨w.heap.size + 1, 1, none⟩ (.string ⟨#[]⟩)).setCell ⟨w.heap.size + 1, 2, none⟩ (.slice none 0 0)).setCell ⟨w.heap.size + 1, 3, none⟩ (.int .i64 0)) = W5 at *
          obtain ⟨⟨y0, y1, y2, y3⟩, _⟩ := bl4 (w2 := W5.drew) q1
          exact bodyPost_ret (v := .tuple #[.agg #[.string ⟨#[]⟩, .string ⟨#[]⟩, .slice none 0 0, .int .i64 0], .int .i64 ap, .int .i64 2]) (by simp [results, Try.results13, go_sem, y0, y1, y2, y3]) rfl (OpQ.bad1 (HE.out) q2.drew)
        · have HE : Hid (rgo1 ats [] = rgo1 (ats.drop (i + 1)) lb) := by
            show _ = _
            rw [HI.out.2.1, if_pos rfl, if_neg hx]
          have hx1 : ¬ an.toList = (⟨#[120, 109, 108, 110, 115, 58]⟩ : ByteArray).toList := fun q => hx ((tl_eq _ _).1 q)
          have hx2 : ¬ an.toList = [120, 109, 108, 110, 115, 58] := fun q => hx1 (by rw [q, tl_mk])
          have hx3 : (an.toList == [120, 109, 108, 110, 115, 58]) = false := by simpa using hx2
          clear hx hx1
          by_cases h6 : an.size = 6
          all_goals
            go_wp2_with fail
            go_roundg m
            case measure => omega
            case rel => exact ⟨i + 1, lb, rfl, by omega, HI.out.1.e, HI.out.1.z, HI.out.1.row, HI.out.1.bel, HE.out, by have := HI.out.1.len; omega⟩
      · go_wp2_with fail
        have HE4 : Hid (w3.cell? ⟨w.heap.size, 4, none⟩ = some (.slice (some ⟨g, off, none⟩) ats.length c)) := (bl5 HI.out.1.e).1.2.2.2.2
        have HX : Hid (w3.cell? ⟨g, off + i * 3, none⟩ = some (.string an) ∧ w3.cell? ⟨g, off + i * 3 + 1, none⟩ = some (.string av)) := ⟨x0, x1⟩
        go_region_held3 (fun W => W.cell? ⟨w.heap.size, 4, none⟩ = some (.slice (some ⟨g, off, none⟩) ats.length c) ∧ W.cell? ⟨g, off + i * 3, none⟩ = some (.string an) ∧ W.cell? ⟨g, off + i * 3 + 1, none⟩ = some (.string av)) (go_keep) (first | (go_at_call 30; refine Calls.mono (rbad_s bp an av _ (by omega)) ?_; rintro e w4 ⟨rfl, hb4⟩; have hb5 := (Below.drewN' (w := w3) _).trans hb4; have y4 := (hb5.cell (p := ⟨w.heap.size, 4, none⟩) (lt_of HI.out.1.e)).trans HE4.out; have y0 := (hb5.cell (p := ⟨g, off + i * 3, none⟩) (Nat.lt_of_lt_of_le hgl HI.out.1.bel.size)).trans HX.out.1; have y1 := (hb5.cell (p := ⟨g, off + i * 3 + 1, none⟩) (Nat.lt_of_lt_of_le hgl HI.out.1.bel.size)).trans HX.out.2; have HB4 : Hid _ := hb5; clear hb4 hb5))
        have y2 := (HB4.out.cell (p := ⟨g, off + i * 3 + 2, none⟩) (Nat.lt_of_lt_of_le hgl HI.out.1.bel.size)).trans x2
        have z4 := (HB4.out.block _ (lt_of HI.out.1.z)).trans HI.out.1.z
        have hb4 := HI.out.1.bel.trans (HB4.out.mono HI.out.1.bel.size)
        have HW : Hid _ := And.intro hb4 z4
        obtain ⟨⟨s0, s1, s2, s3⟩, r0, r1, r2, r3⟩ := bl4 z4
        have HE : Hid (rgo1 ats [] = if badR bp an av = true then .error ap else rgo1 (ats.drop (i + 1)) (lb ++ [(bp, av)])) := by
          show _ = _
          rw [HI.out.2.1, if_neg (by simp)]
        clear hb4 z4 x0 x1 x2 t0 t1 t2 t3 f0 f1 f2 f3
        have HK : Hid _ := And.intro HI.out.1 HB4.out
        clear HI HB4 HE4 HX
        generalize badR bp an av = bd at *
        cases bd
        · go_wp2_with (first | (at_builtin; refine wpList_app _ rfl (.tmp 86) (.tmp 95) 64 rfl (w.heap.size + 1 + 1) 88 i88 z88 2 32 Try.underlying64 hi88 hz0 hz1 hz3 hzc (by decide) _ lb.length (lb.flatMap bc) rfl (World.ownsRow.alloc (row_below HK.out.1.row HK.out.2) _) (some ⟨w4.heap.size, 0, none⟩) 1 1 (bc (bp, av)) rfl rfl (.inr ⟨_, rfl, World.news_of_block (nw_heap w4 _)⟩) (by intro u hu; simp [bc] at hu; rcases hu with rfl | rfl <;> rfl) (by have := HK.out.1.len; unfold maxLen; omega) (by have := HK.out.1.len; omega) (by have := HK.out.2.size; have := lt_of HK.out.1.z; simp only [sza]; omega) ?_; intro v5 w5 hown5 hg5 hat5; have H5 : Hid _ := And.intro hown5 hg5; clear hown5 hg5 hat5))
          go_roundg m
          case measure => omega
          case rel => exact ⟨i + 1, lb ++ [(bp, av)], rfl, by omega, HK.out.1.more HK.out.2 H5.out.2 H5.out.1 (by rw [HE.out]; rfl)⟩
        · go_upto_region 10 with fail
          go_region
          go_wp2_with fail
          obtain ⟨q1, q2⟩ := set4b HW.out.1 (Nat.le_add_right _ 1) HW.out.2 (.string ⟨#[]⟩) (.string ⟨#[]⟩) (.slice none 0 0) (.int .i64 0)
          generalize ((((w4.setCell ⟨w.heap.size + 1, 0, none⟩ (.string ⟨#[]⟩)).setCell ⟨w.heap.size + 1, 1, none⟩ (.string ⟨#[]⟩)).setCell ⟨w.heap.size + 1, 2, none⟩ (.slice none 0 0)).setCell ⟨w.heap.size + 1, 3, none⟩ (.int .i64 0)) = W5 at *
          obtain ⟨⟨p0, p1, p2, p3⟩, _⟩ := bl4 (w2 := W5.drew) q1
          exact bodyPost_ret (v := .tuple #[.agg #[.string ⟨#[]⟩, .string ⟨#[]⟩, .slice none 0 0, .int .i64 0], .int .i64 ap, .int .i64 2]) (by simp [results, Try.results13, go_sem, p0, p1, p2, p3]) rfl (OpQ.bad1 (by rw [HE.out]; rfl) q2.drew)
    · obtain rfl : i = ats.length := by omega
      have heq : rgo1 ats [] = .ok lb := by rw [hI.eq, List.drop_length]; rfl
      obtain ⟨sv, hsv, hrl⟩ := HR.out.1.ex
      obtain ⟨la, lc, vs, rfl, hvl, hvr, hv1, hvs⟩ := rowLO_vs hrl
      have hQw := lt_of hsv
      have hsvr := (hI.bel.block _ hQw).trans hsv
      have hQlt := lt_of hsvr
      have cQ : wr.cell? ⟨Q, 0, none⟩ = some (.slice la L.length lc) := by simp only [World.cell?, hsvr]; rfl
      have HJ : Hid _ := And.intro hI (And.intro heq (And.intro hvr hsv))
      have HV : Hid _ := And.intro hvl (And.intro hv1 hvs)
      clear hI heq hvr hvl hv1 hvs hrl hsv hsvr
      go_wp2_with (first | (at_builtin; refine wpList_app _ rfl (.tmp 97) (.tmp 101) 28 rfl wr.heap.size 64 i64 z64 1 24 Try.underlying28 hi64 hy0 hy1 hy3 hyc (by decide) (.slice (some ⟨wr.heap.size, 0, none⟩) 0 0) 0 [] rfl (emp64 wr) la L.length lc vs rfl (by rw [HV.out.1]; omega) (src_below HV.out.2.2 (HJ.out.1.bel.alloc HJ.out.1.bel.size _)) HV.out.2.1 (by unfold maxLen; omega) (by omega) (by simp) ?_; intro v1 w1 hown1 hg1 hat1; have hbl1 := bl_app64 hg1; have H1 : Hid _ := And.intro hown1 hbl1; clear hown1 hg1 hat1 hbl1) | (at_builtin; refine wpList_app _ rfl (.tmp 102) (.tmp 104) 28 rfl wr.heap.size 64 i64 z64 1 24 Try.underlying28 hi64 hy0 hy1 hy3 hyc (by decide) v1 (0 + L.length) ([] ++ vs) rfl (World.ownsRow.alloc H1.out.1 _) (some ⟨w1.heap.size, 0, none⟩) 1 1 [.slice va lb.length vc] rfl rfl (.inr ⟨_, rfl, World.news_of_block (nw_heap w1 _)⟩) (by intro u hu; simp at hu; subst hu; rfl) (by unfold maxLen; omega) (by omega) (by have := H1.out.2.size; simp only [sza]; omega) ?_; intro v2 w2 hown2 hg2 hat2; obtain ⟨a2, c2, rfl⟩ := row_form hown2; have hbl2 := bl_app64' (H1.out.2.alloc H1.out.2.size _) (World.ownsRow.alloc H1.out.1 _) hg2; have b5 := (hbl2.block _ (lt_of HJ.out.1.e)).trans HJ.out.1.e; obtain ⟨⟨_, k1, k2, _, k4⟩, _⟩ := bl5 b5; have hlt5 := lt_of b5; have H2 : Hid _ := And.intro hown2 hbl2; clear hown2 hg2 hat2 hbl2 b5))
      -- the new scope
      obtain ⟨wo, hwo⟩ : ∃ wo, wo = wr := ⟨_, rfl⟩
      subst hwo
      have hr2 : w2.ownsRow wo.heap.size 64 1 (.slice a2 (L.length + 1) c2) (L.length + 1) (vs ++ [.slice va lb.length vc]) := by simpa only [Nat.zero_add, List.nil_append] using H2.out.1
      have hbo : Below wo.heap.size wo (w2.alloc (.cells #[.slice a2 (L.length + 1) c2] 30)) := H2.out.2.alloc H2.out.2.size _
      have hrl2 : RowL w2 (.slice a2 (L.length + 1) c2) (L ++ [lb]) := rows_mk hr2 HV.out.1 (fun i hi => by
        obtain ⟨x, h1, h2⟩ := HJ.out.2.2.1 i hi
        exact ⟨x, h1, (h2.1.below HJ.out.1.bel).below H2.out.2⟩) ((row8 HJ.out.1.row).below H2.out.2)
      have hRS : RS (w2.alloc (.cells #[.slice a2 (L.length + 1) c2] 30)) w2.heap.size (L ++ [lb]) := ⟨_, nw_heap _ _, hrl2.below ((Below.refl _ _).alloc (Nat.le_refl _) _)⟩
      have hsz2 := H2.out.2.size
      have hszo := HJ.out.1.bel.size
      have hlz := lt_of HJ.out.1.z
      have HNm := name_r hRS nm false hnm
      have hop : opR L nm pl ats = if (nameR (L ++ [lb]) nm false).2.2 ≠ 0 then .error (pl, (nameR (L ++ [lb]) nm false).2.2) else match rgo2 (L ++ [lb]) ats [] with
        | .error e => .error e
        | .ok out => .ok (((nameR (L ++ [lb]) nm false).1, (nameR (L ++ [lb]) nm false).2.1), out) := by
        unfold opR
        rw [HJ.out.2.1]
        rfl
      generalize nameR (L ++ [lb]) nm false = R at *
      obtain ⟨r1, r2, r3⟩ := R
      dsimp only at *
      have HO : Hid _ := And.intro hop (And.intro HNm (And.intro hbo hRS))
      clear hop HNm hbo hRS hrl2
      refine Calls.mono HO.out.2.1 ?_
      rintro e w3 ⟨rfl, hb3⟩
      have hsz3 := hb3.size
      simp only [sza] at hsz3
      have hbo3 : Below wo.heap.size wo w3 := HO.out.2.2.1.trans (hb3.mono (by simp only [sza]; omega))
      have hb3a : Below w3.heap.size w3 (w3.alloc (.cells #[.string r1, .string r2] 37)) := (Below.refl _ _).alloc (Nat.le_refl _) _
      have hbos : Below wo.heap.size wo (w3.alloc (.cells #[.string r1, .string r2] 37)) := hbo3.trans (hb3a.mono hbo3.size)
      have hRS3 := (HO.out.2.2.2.below hb3).below hb3a
      have es := (hbos.block _ (lt_of HJ.out.1.e)).trans HJ.out.1.e
      have zs := (hbos.block _ (lt_of HJ.out.1.z)).trans HJ.out.1.z
      have ns := nw_heap w3 (.cells #[.string r1, .string r2] 37)
      have hbs := HJ.out.1.bel.trans (hbos.mono HJ.out.1.bel.size)
      obtain ⟨⟨_, es1, es2, _, es4⟩, _⟩ := bl5 es
      obtain ⟨⟨t0, t1, t2, t3⟩, f0, f1, f2, f3⟩ := bl4 zs
      obtain ⟨n0, n1, _, _⟩ := fresh2 ns
      have hsQ2 := (hb3.block w2.heap.size (by simp)).trans (nw_heap w2 (.cells #[.slice a2 (L.length + 1) c2] 30))
      have hsQ3 := (hb3a.block _ (lt_of hsQ2)).trans hsQ2
      have hr2s : (w3.alloc (.cells #[.string r1, .string r2] 37)).ownsRow wo.heap.size 64 1 (.slice a2 (L.length + 1) c2) (L.length + 1) (vs ++ [.slice va lb.length vc]) := World.ownsRow.alloc (row_below (World.ownsRow.alloc hr2 _) hb3) _
      have HS : Hid _ := And.intro hbs (And.intro es (And.intro zs (And.intro hRS3 (And.intro hsQ3 (And.intro hr2s hbos)))))
      clear hr2 hb3 hbo3 hb3a hbos hRS3 es zs ns hbs hsQ2 hsQ3 hr2s
      by_cases h3 : r3 = 0
      · subst h3
        go_upto_region 17 with fail
        have hst : O2 (w3.alloc (.cells #[.string r1, .string r2] 37)) (w3.heap.size + 1) r1 r2 pl [] ((w3.alloc (.cells #[.string r1, .string r2] 37)).alloc (.cells #[.string r1, .string r2, .slice none 0 0, .int .i64 pl] 46)) := O2.start r1 r2 pl (sza _ _)
        have hszS : (w3.alloc (.cells #[.string r1, .string r2] 37)).heap.size = w3.heap.size + 1 := sza _ _
        have HT : Hid _ := And.intro hst hszS
        clear hst hszS es1 es2 es4 t0 t1 t2 t3 f0 f1 f2 f3 n0 n1 k1 k2 k4
        generalize (w3.alloc (.cells #[.string r1, .string r2] 37)) = wS at *
        go_wp2_with fail
        go_loopg [15] ats.length (fun m v15 wr => ∃ (i : Nat) (out : List Out), v15 = .int .i64 i ∧ i + m = ats.length ∧ out.length ≤ i ∧ rgo2 (L ++ [lb]) ats [] = rgo2 (L ++ [lb]) (ats.drop i) out ∧ O2 wS (w3.heap.size + 1) r1 r2 pl out wr)
        case atStart => exact ⟨0, [], rfl, by omega, by simp, rfl, HT.out.1⟩
        case round =>
          obtain ⟨i, out, rfl, him2, hio, hrg, hO⟩ := hrel
          have ew := (hO.bel.block _ (lt_of HS.out.2.1)).trans HS.out.2.1
          have zw := (hO.bel.block _ (lt_of HS.out.2.2.1)).trans HS.out.2.2.1
          have hbw := HS.out.1.trans (hO.bel.mono HS.out.1.size)
          obtain ⟨⟨_, e1, e2, _, e4⟩, _⟩ := bl5 ew
          have hltz := lt_of zw
          by_cases hi2 : i < ats.length
          · obtain ⟨m, rfl⟩ : ∃ m, gk = m + 1 := ⟨gk - 1, by omega⟩
            rcases HR.out.2.1 with he | ⟨g, off, rfl, hgl, _, hac⟩
            · rw [he] at hi2; simp at hi2
            obtain ⟨q0, q1, q2, _⟩ := hac i hi2
            have hsz := HR.out.2.2 _ (List.getElem_mem hi2)
            have x0 := (hbw.cell (p := ⟨g, off + i * 3, none⟩) hgl).trans q0
            have x1 := (hbw.cell (p := ⟨g, off + i * 3 + 1, none⟩) hgl).trans q1
            have x2 := (hbw.cell (p := ⟨g, off + i * 3 + 2, none⟩) hgl).trans q2
            have hd : ats.drop i = ats[i]'hi2 :: ats.drop (i + 1) := List.drop_eq_getElem_cons hi2
            rw [hd, rgo2] at hrg
            clear hac q0 q1 q2 hd
            generalize (ats[i]'hi2) = A at *
            obtain ⟨an, av, ap⟩ := A
            dsimp only at *
            have hbA : Below wr.heap.size wr (wr.alloc (.cells #[.string an, .string av, .int .i64 ap] 86)) := (Below.refl _ _).alloc (Nat.le_refl _) _
            have HB := rbinds_s an (wr.alloc (.cells #[.string an, .string av, .int .i64 ap] 86)) (by unfold maxLen; omega)
            have hRSw := (HS.out.2.2.2.1.below hO.bel).below hbA
            have HNa := name_r hRSw an true hsz
            generalize binR an = R at *
            obtain ⟨bp, bb⟩ := R
            generalize nameR (L ++ [lb]) an true = R at *
            obtain ⟨m1, m2, m3⟩ := R
            dsimp only at *
            have HI : Hid _ := And.intro hO (And.intro hrg (And.intro HB (And.intro HNa (And.intro hbA (And.intro ew (And.intro zw hbw))))))
            clear hO hrg HB HNa hbA hRSw ew zw hbw
            cases bb
            · go_wp2_with (first | (go_at_call 29; refine Calls.mono HI.out.2.2.1 ?_; rintro e w' ⟨rfl, rfl⟩))
              refine Calls.mono HI.out.2.2.2.1 ?_
              rintro e w4 ⟨rfl, hb4⟩
              have hO4 := (HI.out.1.below HI.out.2.2.2.2.1).below hb4
              have hsz4 := hb4.size
              simp only [sza] at hsz4
              have hbw4 : Below wr.heap.size wr w4 := HI.out.2.2.2.2.1.trans (hb4.mono (by simp only [sza]; omega))
              have hA4 : w4.heap[wr.heap.size]? = some (.cells #[.string an, .string av, .int .i64 ap] 86 (0, 0)) := (hb4.block _ (by simp)).trans (nw_heap _ _)
              have hb4a : Below w4.heap.size w4 (w4.alloc (.cells #[.string m1, .string m2] 37)) := (Below.refl _ _).alloc (Nat.le_refl _) _
              have hO5 := hO4.below hb4a
              have hA5 := (hb4a.block _ (lt_of hA4)).trans hA4
              have hM5 := nw_heap w4 (.cells #[.string m1, .string m2] 37)
              have hbw5 : Below wr.heap.size wr (w4.alloc (.cells #[.string m1, .string m2] 37)) := hbw4.trans (hb4a.mono hbw4.size)
              have hz5 := (hbw5.block _ (lt_of HI.out.2.2.2.2.2.2.1)).trans HI.out.2.2.2.2.2.2.1
              have hbN5 := HI.out.2.2.2.2.2.2.2.trans (hbw5.mono HI.out.2.2.2.2.2.2.2.size)
              obtain ⟨a5, a51, a52⟩ := bl3 hA5
              obtain ⟨⟨z0, z1, z2, z3⟩, zf0, zf1, zf2, zf3⟩ := bl4 hz5
              have HG : Hid _ := And.intro hO5 (And.intro hA5 (And.intro hM5 (And.intro hbw5 (And.intro hz5 hbN5))))
              clear hO4 hbw4 hA4 hb4a hO5 hA5 hM5 hbw5 hz5 hbN5 hb4
              by_cases hm3 : m3 = 0
              · subst hm3
                obtain ⟨sv, hT5, hR5⟩ := HG.out.1.t
                obtain ⟨sa, sc, rfl⟩ := row_form hR5
                have hRA := rowA_own hR5 rfl
                obtain ⟨ra, rcap, hre, hrl', hrm, hrc⟩ := hRA
                simp only [Value.slice.injEq] at hre
                obtain ⟨rfl, _, rfl⟩ := hre
                have hsz5 : (w4.alloc (.cells #[.string m1, .string m2] 37)).heap.size = w4.heap.size + 1 := sza _ _
                have HK : Hid _ := And.intro hT5 (And.intro hR5 (And.intro hrc hsz5))
                have hq37 := eq37
                clear hT5 hR5 hrc hsz5 a5 a51 a52 z0 z1 z2 z3 zf0 zf1 zf2 zf3
                go_upto_region 26 with fail
                obtain ⟨wq, hwq⟩ : ∃ wq, wq = wr := ⟨_, rfl⟩
                subst hwq
                generalize (w4.alloc (.cells #[.string m1, .string m2] 37)) = W at *
                go_wp2_with fail
                go_loopg [21] out.length (fun m v21 wr => ∃ j : Nat, v21 = .int .i64 j ∧ j + m = out.length ∧ Hid (hasN ((out.take j).map (·.1)) (m1, m2) = false) ∧ Below W.heap.size W wr)
                case atStart => exact ⟨0, rfl, by omega, rfl, Below.refl _ _⟩
                case round =>
                  obtain ⟨j, rfl, hjm, hhas, hbr⟩ := hrel
                  have T5 := (hbr.block _ (lt_of HK.out.1)).trans HK.out.1
                  have A5 := (hbr.block _ (lt_of HG.out.2.1)).trans HG.out.2.1
                  have M5 := (hbr.block _ (lt_of HG.out.2.2.1)).trans HG.out.2.2.1
                  have Z5 := (hbr.block _ (lt_of HG.out.2.2.2.2.1)).trans HG.out.2.2.2.2.1
                  obtain ⟨⟨_, _, u2, _⟩, _, _, v2, _⟩ := bl4 T5
                  obtain ⟨_, a51, a52⟩ := bl3 A5
                  obtain ⟨c0, c1, _, _⟩ := fresh2 M5
                  obtain ⟨⟨z0, z1, z2, z3⟩, zf0, zf1, zf2, zf3⟩ := bl4 Z5
                  by_cases hj : j < out.length
                  · obtain ⟨m', rfl⟩ : ∃ m', gk = m' + 1 := ⟨gk - 1, by omega⟩
                    rcases HK.out.2.2.1 with he | ⟨rg, ro, rfl, hrgl, hrce⟩
                    · rw [he] at hj; simp at hj
                    obtain ⟨b0, b1, _, _⟩ := hrce j hj
                    have p0 := (hbr.cell (p := ⟨rg, ro + j * 4, none⟩) hrgl).trans b0
                    have p1 := (hbr.cell (p := ⟨rg, ro + j * 4 + 1, none⟩) hrgl).trans b1
                    have htk : (out.take (j + 1)).map (·.1) = (out.take j).map (·.1) ++ [(out[j]'hj).1] := by
                      rw [List.take_add_one, List.getElem?_eq_getElem hj, List.map_append]
                      rfl
                    have hwh : ((m1.toList == (out[j]'hj).1.1.toList) && (m2.toList == (out[j]'hj).1.2.toList)) = true → hasN (out.map (·.1)) (m1, m2) = true := fun h => hasN_at (q := (m1, m2)) j (by simpa using hj) (by simpa using h)
                    clear hrce b0 b1
                    generalize (out[j]'hj) = B at *
                    obtain ⟨⟨B1, B2⟩, B3, B4⟩ := B
                    dsimp only at *
                    have HL : Hid _ := And.intro hhas (And.intro hbr (And.intro htk (And.intro hwh (And.intro Z5 (HG.out.2.2.2.2.2.trans (hbr.mono HG.out.2.2.2.2.2.size))))))
                    clear hhas hbr htk hwh T5 A5 M5 Z5
                    by_cases h1 : B1.toList = m1.toList
                    · by_cases h2 : B2.toList = m2.toList
                      · have h1' : (B1.toList == m1.toList) = true := by simpa using h1
                        have h2' : (B2.toList == m2.toList) = true := by simpa using h2
                        have HE : Hid (hasN (out.map (·.1)) (m1, m2) = true) := HL.out.2.2.2.1 (by simp [h1, h2])
                        clear h1 h2
                        go_wp2_with fail
                        go_quiet (fail)
                        go_upto_region 30 with fail
                        have hzq : (wr.drewN nq).heap[w.heap.size + 1]? = some (.cells #[.string ⟨#[]⟩, .string ⟨#[]⟩, .slice none 0 0, .int .i64 0] 46 (0, 0)) := HL.out.2.2.2.2.1
                        have hbq : Below w.heap.size w (wr.drewN nq) := HL.out.2.2.2.2.2.trans ((Below.drewN' nq).mono HL.out.2.2.2.2.2.size)
                        have a52q : (wr.drewN nq).cell? ⟨wq.heap.size, 2, none⟩ = some (.int .i64 ap) := a52
                        have HQ : Hid _ := And.intro hzq hbq
                        obtain ⟨⟨z0q, z1q, z2q, z3q⟩, zf0q, zf1q, zf2q, zf3q⟩ := bl4 hzq
                        clear hzq hbq
                        generalize (wr.drewN nq) = W6 at *
                        go_region
                        go_wp2_with fail
                        obtain ⟨q1, q2⟩ := set4b HQ.out.2 (Nat.le_add_right _ 1) HQ.out.1 (.string ⟨#[]⟩) (.string ⟨#[]⟩) (.slice none 0 0) (.int .i64 0)
                        generalize ((((W6.setCell ⟨w.heap.size + 1, 0, none⟩ (.string ⟨#[]⟩)).setCell ⟨w.heap.size + 1, 1, none⟩ (.string ⟨#[]⟩)).setCell ⟨w.heap.size + 1, 2, none⟩ (.slice none 0 0)).setCell ⟨w.heap.size + 1, 3, none⟩ (.int .i64 0)) = W5 at *
                        obtain ⟨⟨y0, y1, y2, y3⟩, _⟩ := bl4 (w2 := W5.drew) q1
                        exact bodyPost_ret (v := .tuple #[.agg #[.string ⟨#[]⟩, .string ⟨#[]⟩, .slice none 0 0, .int .i64 0], .int .i64 ap, .int .i64 5]) (by simp [results, Try.results13, go_sem, y0, y1, y2, y3]) rfl (OpQ.bad (x := (ap, 5)) (by rw [HO.out.1, if_neg (by simp), HI.out.2.1, if_neg (by simp), if_neg (by simp), if_pos HE.out]) q2.drew)
                      · have h1' : (B1.toList == m1.toList) = true := by simpa using h1
                        have h2' : (B2.toList == m2.toList) = false := by simpa using h2
                        have HE : Hid (((m1.toList == B1.toList) && (m2.toList == B2.toList)) = false) := by
                          show _ = _
                          have : ¬ m2.toList = B2.toList := fun e => h2 e.symm
                          simp [this]
                        clear h1 h2
                        go_wp2_with fail
                        go_quiet (fail)
                        go_wp2_with fail
                        go_roundg m'
                        case measure => omega
                        case rel => exact ⟨j + 1, rfl, by omega, by show _ = _; rw [HL.out.2.2.1, hasN_snoc, HL.out.1.out, HE.out]; rfl, HL.out.2.1.trans ((Below.drewN' _).mono HL.out.2.1.size)⟩
                    · have h1' : (B1.toList == m1.toList) = false := by simpa using h1
                      have HE : Hid (((m1.toList == B1.toList) && (m2.toList == B2.toList)) = false) := by
                        show _ = _
                        have : ¬ m1.toList = B1.toList := fun e => h1 e.symm
                        simp [this]
                      clear h1
                      go_wp2_with fail
                      go_quiet (fail)
                      go_wp2_with fail
                      go_roundg m'
                      case measure => omega
                      case rel => exact ⟨j + 1, rfl, by omega, by show _ = _; rw [HL.out.2.2.1, hasN_snoc, HL.out.1.out, HE.out]; rfl, HL.out.2.1.trans ((Below.drewN' _).mono HL.out.2.1.size)⟩
                  · obtain rfl : j = out.length := by omega
                    have hR6 := row_below HK.out.2.1 hbr
                    have hlw := hbr.size
                    have hTlt := lt_of T5
                    have hAlt := lt_of A5
                    have hMlt := lt_of M5
                    have HL : Hid _ := And.intro hhas (And.intro hbr (And.intro T5 hR6))
                    clear hhas hbr T5 A5 M5 Z5 hR6
                    go_wp2_with (first | (at_builtin; refine wpList_app _ rfl (.tmp 176) (.tmp 183) 44 rfl (w3.heap.size + 1 + 1) 90 i90 z90 4 56 Try.underlying44 hi90 hx0 hx1 hx3 hxc (by decide) (.slice sa out.length sc) out.length (out.flatMap ac) rfl (World.ownsRow.alloc HL.out.2.2.2 _) (some ⟨wr.heap.size, 0, none⟩) 1 1 (ac ((m1, m2), av, ap)) rfl rfl (.inr ⟨_, rfl, World.news_of_block (nw_heap wr _)⟩) (by intro u hu; simp [ac] at hu; rcases hu with rfl | rfl | rfl | rfl <;> rfl) (by unfold maxLen; omega) (by omega) (by simp only [sza]; omega) ?_; intro v7 w7 hown7 hg7 hat7; obtain ⟨a7, c7, rfl⟩ := row_form hown7; have T7 := grown_o hg7 ((((Below.refl wr.heap.size wr).alloc (Nat.le_refl _) _).block _ (lt_of HL.out.2.2.1)).trans HL.out.2.2.1) (fun e => by have := (row_base HL.out.2.2.2 _ e).1; omega); obtain ⟨⟨_, _, v72, _⟩, _, _, fv72, _⟩ := bl4 T7; have H7 : Hid _ := And.intro hown7 hg7; clear hown7 hg7 hat7 T7))
                    go_roundg m
                    case measure => omega
                    case rel =>
                      refine ⟨i + 1, out ++ [((m1, m2), av, ap)], rfl, by omega, by simp; omega, ?_, ?_⟩
                      · have hh := HL.out.1.out
                        rw [List.take_length] at hh
                        rw [HI.out.2.1]
                        simp [hh]
                      · exact O2.more ((m1, m2), av, ap) HG.out.1.sz (HG.out.1.bel.trans (HL.out.2.1.mono HG.out.1.bel.size)) HL.out.2.2.1 HL.out.2.2.2 H7.out.1 H7.out.2
              · go_upto_region 25 with fail
                generalize (w4.alloc (.cells #[.string m1, .string m2] 37)) = W at *
                go_region
                go_wp2_with fail
                obtain ⟨q1, q2⟩ := set4b HG.out.2.2.2.2.2 (Nat.le_add_right _ 1) HG.out.2.2.2.2.1 (.string ⟨#[]⟩) (.string ⟨#[]⟩) (.slice none 0 0) (.int .i64 0)
                generalize ((((W.setCell ⟨w.heap.size + 1, 0, none⟩ (.string ⟨#[]⟩)).setCell ⟨w.heap.size + 1, 1, none⟩ (.string ⟨#[]⟩)).setCell ⟨w.heap.size + 1, 2, none⟩ (.slice none 0 0)).setCell ⟨w.heap.size + 1, 3, none⟩ (.int .i64 0)) = W5 at *
                obtain ⟨⟨y0, y1, y2, y3⟩, _⟩ := bl4 (w2 := W5.drew) q1
                exact bodyPost_ret (v := .tuple #[.agg #[.string ⟨#[]⟩, .string ⟨#[]⟩, .slice none 0 0, .int .i64 0], .int .i64 ap, .int .i64 m3]) (by simp [results, Try.results13, go_sem, y0, y1, y2, y3]) rfl (OpQ.bad (x := (ap, m3)) (by rw [HO.out.1, if_neg (by simp), HI.out.2.1, if_neg (by simp), if_pos hm3]) q2.drew)
            · go_wp2_with (first | (go_at_call 29; refine Calls.mono HI.out.2.2.1 ?_; rintro e w' ⟨rfl, rfl⟩))
              go_roundg m
              case measure => omega
              case rel => exact ⟨i + 1, out, rfl, by omega, by omega, by rw [HI.out.2.1]; simp, HI.out.1.below HI.out.2.2.2.2.1⟩
          · obtain rfl : i = ats.length := by omega
            obtain ⟨sv, hTw, hRw⟩ := hO.t
            obtain ⟨sa, sc, rfl⟩ := row_form hRw
            have hQw2 := (hO.bel.block _ (lt_of HS.out.2.2.2.2.1)).trans HS.out.2.2.2.2.1
            have hQb := (hbw.block _ hQw).trans HJ.out.2.2.2
            have cQ2 : wr.cell? ⟨w2.heap.size, 0, none⟩ = some (.slice a2 (L.length + 1) c2) := by simp only [World.cell?, hQw2]; rfl
            have cQw : wr.cell? ⟨Q, 0, none⟩ = some (.slice la L.length lc) := by simp only [World.cell?, hQb]; rfl
            have fQ : wr.frozen? ⟨Q, 0, none⟩ = false := by simp [World.frozen?, hQb]
            have hQw' := lt_of hQb
            have hTlt := lt_of hTw
            have heqo : opR L nm pl ats = .ok ((r1, r2), out) := by
              rw [HO.out.1, if_neg (by simp), hrg, List.drop_length]
              rfl
            have HF : Hid _ := And.intro hO (And.intro heqo (And.intro ew (And.intro zw (And.intro hbw (And.intro hTw (And.intro hRw hQb))))))
            clear hO heqo ew zw hbw hTw hRw hQw2 hrg hQb
            clear cQ hQlt t0 t1 t2 t3 f0 f1 f2 f3
            go_upto_region 33 with fail
            have hQT : Q ≠ w3.heap.size + 1 := by omega
            have hQN : Q ≠ w.heap.size + 1 := by omega
            obtain ⟨hf1, hf2, hf3⟩ := fin5 hQN HF.out.2.2.2.2.2.2.2 HF.out.2.2.2.1 (.slice a2 (L.length + 1) c2) (.string r1) (.string r2) (.slice sa out.length sc) (.int .i64 pl)
            obtain ⟨g1, _⟩ := setC (i := 0) (.slice a2 (L.length + 1) c2) HF.out.2.2.2.2.2.2.2
            obtain ⟨⟨s0, s1, s2, s3⟩, _⟩ := bl4 (grown_at g1 HF.out.2.2.2.2.2.1 hQT)
            obtain ⟨⟨t0, t1, t2, t3⟩, f0, f1, f2, f3⟩ := bl4 (grown_at g1 HF.out.2.2.2.1 hQN)
            have HW : Hid _ := And.intro hf1 (And.intro hf2 hf3)
            clear hf1 hf2 hf3 g1 cQ2 cQw fQ
            generalize wr.setCell ⟨Q, 0, none⟩ (.slice a2 (L.length + 1) c2) = W1 at *
            go_wp2_with fail
            obtain ⟨hf1, hf2, hf3⟩ := HW.out
            clear HW
            generalize ((((W1.setCell ⟨w.heap.size + 1, 0, none⟩ (.string r1)).setCell ⟨w.heap.size + 1, 1, none⟩ (.string r2)).setCell ⟨w.heap.size + 1, 2, none⟩ (.slice sa out.length sc)).setCell ⟨w.heap.size + 1, 3, none⟩ (.int .i64 pl)) = W5 at *
            obtain ⟨⟨y0, y1, y2, y3⟩, _⟩ := bl4 hf2
            have hlb := rgo1_ok HJ.out.2.1
            have hfro : Fro (fun k => k = Q) w W5 := (Fro.below HF.out.2.2.2.2.1 : Fro (fun k => k = Q) w wr).trans' hf3 (fun i hi h => h.resolve_right (by omega))
            have hrowA : RowA W5 (.slice sa out.length sc) out := rowA_own (row_same HF.out.2.2.2.2.2.2.1 (fun k hk => by
              have := row_base HF.out.2.2.2.2.2.2.1 k hk
              exact hf3.block k this.2 (by omega))) rfl
            have hrow64 := row_below HS.out.2.2.2.2.2.1 HF.out.1.bel
            have hrow64' := row_same (w' := W5) hrow64 (fun k hk => by
              have := row_base hrow64 k hk
              exact hf3.block k this.2 (by omega))
            have hrow88 := row_same (w' := W5) HJ.out.1.row (fun k hk => by
              have hk2 := row_base HJ.out.1.row k hk
              have b1 := HS.out.2.2.2.2.2.2.block k hk2.2
              have l1 := HS.out.2.2.2.2.2.2.size
              have b2 := HF.out.1.bel.block k (by omega)
              have l2 := HF.out.1.bel.size
              exact ((hf3.block k (by omega) (by omega)).trans b2).trans b1)
            refine bodyPost_ret (v := .tuple #[.agg #[.string r1, .string r2, .slice sa out.length sc, .int .i64 pl], .int .i64 0, .int .i64 0]) (by simp [results, Try.results13, go_sem, y0, y1, y2, y3]) rfl ?_
            have hszw := HF.out.2.2.2.2.1.size
            have hsz5 := hf3.size
            refine OpQ.good (x := ((r1, r2), out)) HF.out.2.1 hrowA ⟨fun k hk => ?_, _, hf1, ?_⟩ hfro
            · rcases hk with hk | hk
              · have := HR.out.1.bd k hk
                exact ⟨this.1, by omega⟩
              · exact ⟨by omega, hk.2⟩
            · rw [← hlb]
              exact rows_mkO hrow64' (fun k h1 h2 => .inr ⟨by omega, h2⟩) HV.out.1 (fun i hi => by
                obtain ⟨x, h1, h2⟩ := HJ.out.2.2.1 i hi
                exact ⟨x, h1, (h2.fro hfro (fun k hk e => (HR.out.1.bd k hk).1 e)).mono (fun k hk => .inl hk)⟩) (row8O hrow88 (fun k h1 h2 => .inr ⟨by omega, h2⟩))
      · go_upto_region 15 with fail
        generalize (w3.alloc (.cells #[.string r1, .string r2] 37)) = W at *
        go_region
        go_wp2_with fail
        obtain ⟨q1, q2⟩ := set4b HS.out.1 (Nat.le_add_right _ 1) HS.out.2.2.1 (.string ⟨#[]⟩) (.string ⟨#[]⟩) (.slice none 0 0) (.int .i64 0)
        generalize ((((W.setCell ⟨w.heap.size + 1, 0, none⟩ (.string ⟨#[]⟩)).setCell ⟨w.heap.size + 1, 1, none⟩ (.string ⟨#[]⟩)).setCell ⟨w.heap.size + 1, 2, none⟩ (.slice none 0 0)).setCell ⟨w.heap.size + 1, 3, none⟩ (.int .i64 0)) = W5 at *
        obtain ⟨⟨y0, y1, y2, y3⟩, _⟩ := bl4 (w2 := W5.drew) q1
        exact bodyPost_ret (v := .tuple #[.agg #[.string ⟨#[]⟩, .string ⟨#[]⟩, .slice none 0 0, .int .i64 0], .int .i64 pl, .int .i64 r3]) (by simp [results, Try.results13, go_sem, y0, y1, y2, y3]) rfl (OpQ.bad (x := (pl, r3)) (by rw [HO.out.1, if_pos h3]) q2.drew)
end Go.Proofs.Ytgidbmiahckleaa
