/- The law's own copy of a tree: the walk. -/
import Derived.Test.YthlkbijpphdblaaK2
import Derived.Deep.RegionLaw
namespace Go.Proofs.Ythlkbijpphdblaa
open Go.RowKit
set_option linter.unusedVariables false

set_option maxRecDepth 4000 in
set_option maxHeartbeats 8000000 in
theorem of_n {n : Nd} (hg : GdN n) : ∀ {O : Nat → Prop} {w : World} {cs : List Value}, NdV O w n cs → Calls Try.prog 9 #[.agg cs.toArray] w fun e w' => OnQ n w e w' := by
  obtain ⟨i38, z38, hi38, hz0, hzc, hz1, hz3⟩ := info_rnp
  induction hg with
  | mk k s a b ks h1 h2 h3 hk ih =>
    intro O w cs h
    have hh := h
    cases h with
    | mk _ _ _ _ _ vs ad cap css hs hl hc hkk hn =>
      have hs0 := hs.sl
      obtain ⟨sa, sc, rfl, _⟩ := hs
      obtain ⟨x1, x2, hbW⟩ := box2' w (.cells #[.int .i64 k, .slice sa s.length sc, .int .i64 a, .int .i64 b, .slice ad ks.length cap] 27) (.cells zN 38)
      have i32 := cn_in32 h1
      have HX : Hid _ := And.intro hh (And.intro hs0 (And.intro i32 (And.intro ih (And.intro hkk hn))))
      clear hh hs0 i32 ih hkk hn hk h1
      go_enter Try.func9, Try.ntmps9
      go_upto_region 1 with fail
      obtain ⟨W, hW⟩ : ∃ W, (w.alloc (.cells #[.int .i64 k, .slice sa s.length sc, .int .i64 a, .int .i64 b, .slice ad ks.length cap] 27)).alloc (.cells zN 38) = W := ⟨_, rfl⟩
      rw [hW] at x1 x2 hbW ⊢
      have HWs : Hid (W.heap.size = w.heap.size + 2) := by rw [← hW]; show _ = _; rw [sza, sza]
      clear hW
      have fS : ∀ X, Below W.heap.size W X → X.cell? ⟨w.heap.size, 0, none⟩ = some (.int .i64 k) ∧ X.cell? ⟨w.heap.size, 1, none⟩ = some (.slice sa s.length sc) ∧ X.cell? ⟨w.heap.size, 2, none⟩ = some (.int .i64 a) ∧ X.cell? ⟨w.heap.size, 3, none⟩ = some (.int .i64 b) := fun X hX => by
        obtain ⟨⟨c0, c1, c2, c3, c4⟩, _⟩ := cells5 ((hX.block _ (lt_of x1)).trans x1)
        exact ⟨c0, c1, c2, c3⟩
      have HFS : Hid _ := fS
      have HC : Hid (Below W.heap.size W W.drew) := bdrewN (Below.refl _ _) 1
      have HA : Hid (∀ o, Below W.heap.size W (W.alloc o).drew) := fun o => bdrewN ((Below.refl _ _).alloc (Nat.le_refl _) o) 1
      have H1 : Hid _ := And.intro x1 (And.intro x2 hbW)
      clear fS x1 x2 hbW
      go_region_held_law (fun X => X.cell? ⟨w.heap.size, 0, none⟩ = some (.int .i64 k) ∧ X.cell? ⟨w.heap.size, 1, none⟩ = some (.slice sa s.length sc) ∧ X.cell? ⟨w.heap.size, 2, none⟩ = some (.int .i64 a) ∧ X.cell? ⟨w.heap.size, 3, none⟩ = some (.int .i64 b)) (first | with_reducible exact HFS.out _ HC.out | with_reducible exact HFS.out _ (HA.out _) | with_reducible exact HFS.out _ (HP.out _ _ _ _ _) | fail)
        (first
          | (go_at_call 19; have hq := ofs_r (.slice sa s.length sc) s W.drew ((HX.out.2.1.below H1.out.2.2).below HC.out) HX.out.2.2.1 h2; (with_reducible refine Calls.mono hq ?_); clear hq; rintro e w5 ⟨a5, c5, rfl, o5, hb5⟩; have hc5 := HC.out.trans (hb5.mono HC.out.size); clear HC HA; have HC : Hid (Below W.heap.size W w5) := hc5; have HA : Hid (∀ o, Below W.heap.size W (w5.alloc o)) := fun o => hc5.alloc hc5.size o; have H5 : Hid (Own .i64 77 w5 W.heap.size (.slice a5 s.length c5) s) := o5; obtain ⟨⟨y0, y1, y2, y3, y4⟩, f0, f1, f2, f3, f4⟩ := cells5 (nw_heap w5 (.cells zN 38)); clear o5 hb5 hc5)
          | (go_at_call 19; have hq := ofs_r (.slice sa s.length sc) s (W.alloc (.cells zN 38)).drew ((HX.out.2.1.below H1.out.2.2).below (HA.out _)) HX.out.2.2.1 h2; (with_reducible refine Calls.mono hq ?_); clear hq; rintro e w5 ⟨a5, c5, rfl, o5, hb5⟩; have hc5 := (HA.out _).trans (hb5.mono (HA.out _).size); clear HC HA; have HC : Hid (Below W.heap.size W w5) := hc5; have hC0 : w5.heap[W.heap.size]? = some (.cells zN 38 (0, 0)) := (hb5.block _ (by simp)).trans (nw_heap W (.cells zN 38)); obtain ⟨⟨y0, y1, y2, y3, y4⟩, f0, f1, f2, f3, f4⟩ := cells5 hC0; have H5 : Hid (Own .i64 77 w5 (W.heap.size + 1) (.slice a5 s.length c5) s) := o5.mono (by simp); have H6 : Hid _ := hC0; have HP : Hid (∀ c0 c1 c2 c3 c4, Below W.heap.size W (put5 w5 W.heap.size c0 c1 c2 c3 c4)) := fun c0 c1 c2 c3 c4 => hc5.trans (put5_bel w5 W.heap.size c0 c1 c2 c3 c4); clear o5 hb5 hc5 hC0)
          | fail)
      all_goals
        first
          | (have hS := CpR.start2 (k := k) (a := a) (b := b) HWs.out H1.out.2.2 H1.out.1 H1.out.2.1 HC.out H5.out H6.out
             clear y0 y1 y2 y3 y4 f0 f1 f2 f3 f4 HP
             obtain ⟨U, hU⟩ : ∃ U, put5 w5 W.heap.size (.int .i64 k) (.slice a5 s.length c5) (.int .i64 a) (.int .i64 b) (.slice none 0 0) = U := ⟨_, rfl⟩
             rw [hU] at hS
             simp only [put5] at hU
             rw [hU]
             obtain ⟨C, hC⟩ : ∃ C, W.heap.size = C := ⟨_, rfl⟩
             rw [hC] at hS ⊢
             have HS : Hid _ := hS
             clear hS hU hC H5 H6 HC H1 HWs HFS)
          | (have hS := CpR.start1 (k := k) (a := a) (b := b) HWs.out H1.out.2.2 H1.out.1 H1.out.2.1 HC.out H5.out
             clear y0 y1 y2 y3 y4 f0 f1 f2 f3 f4 HA
             obtain ⟨U, hU⟩ : ∃ U, w5.alloc (.cells #[.int .i64 k, .slice a5 s.length c5, .int .i64 a, .int .i64 b, .slice none 0 0] 38) = U := ⟨_, rfl⟩
             rw [hU] at hS ⊢
             obtain ⟨C, hC⟩ : ∃ C, w5.heap.size = C := ⟨_, rfl⟩
             rw [hC] at hS ⊢
             have HS : Hid _ := hS
             clear hS hU hC H5 HC H1 HWs HFS)
      all_goals
        go_wp2_with fail
        go_loopg [4] ks.length (fun g v4 wr => ∃ (j : Nat) (v : Value) (css' : List (List Value)), j + g = ks.length ∧ v4 = .int .i64 (j : Int) ∧ CpR w C k s a b (.slice a5 s.length c5) #[.int .i64 k, .slice sa s.length sc, .int .i64 a, .int .i64 b, .slice ad ks.length cap] v wr (ks.take j) css')
        case atStart => exact ⟨0, _, [], by omega, rfl, HS.out⟩
        case round =>
          obtain ⟨j, v, css', hjg, rfl, hR⟩ := hrel
          obtain ⟨va, vc, rfl⟩ := row_form hR.row
          have htl : (ks.take j).length = j := by rw [List.length_take]; omega
          rw [htl] at hR
          obtain ⟨⟨z0, z1, z2, z3, z4⟩, _⟩ := cells5 hR.box
          obtain ⟨⟨y0, y1, y2, y3, y4⟩, f0, f1, f2, f3, f4⟩ := cells5 hR.cop
          clear HS z0 z1 z2 z3
          by_cases hlt : j < ks.length
          · obtain ⟨g, rfl⟩ : ∃ g, gk = g + 1 := ⟨gk - 1, by omega⟩
            have hne : ks ≠ [] := by rintro rfl; simp at hlt
            obtain ⟨gb, off, had, _, hgs, _, hcell⟩ := HX.out.2.2.2.2.1.resolve_left hne
            have hkid := HX.out.2.2.2.2.2 j hlt
            obtain ⟨q0, s0, s1, s2, q2, q3, t0, t1, t2, hform⟩ := nd_form hkid
            rw [hform] at hkid
            have hI : ∀ W', Below wr.heap.size wr W' → Calls Try.prog 9 #[.agg #[.int .i64 q0, .slice s0 s1 s2, .int .i64 q2, .int .i64 q3, .slice t0 t1 t2]] W' fun e w' => OnQ ks[j] W' e w' := fun W' hW' => HX.out.2.2.2.1 _ (List.getElem_mem hlt) ((hkid.bel hR.bel).bel hW')
            have c0 : w.cell? ⟨gb, off + j * 5, none⟩ = some (.int .i64 q0) := hcell j 0 _ (by rw [hform]; rfl)
            have c1 : w.cell? ⟨gb, off + j * 5 + 1, none⟩ = some (.slice s0 s1 s2) := hcell j 1 _ (by rw [hform]; rfl)
            have c2 : w.cell? ⟨gb, off + j * 5 + 2, none⟩ = some (.int .i64 q2) := hcell j 2 _ (by rw [hform]; rfl)
            have c3 : w.cell? ⟨gb, off + j * 5 + 3, none⟩ = some (.int .i64 q3) := hcell j 3 _ (by rw [hform]; rfl)
            have c4 : w.cell? ⟨gb, off + j * 5 + 4, none⟩ = some (.slice t0 t1 t2) := hcell j 4 _ (by rw [hform]; rfl)
            have hwr2 : w.heap.size + 2 ≤ wr.heap.size := by have := hR.cge; have := lt_of hR.cop; omega
            have hrow : wr.ownsRow (w.heap.size + 2) 38 5 (.slice va j vc) j css'.flatten := by have := hR.row; rwa [htl] at this
            subst had
            have fS : ∀ X, Below (w.heap.size + 2) wr X → X.cell? ⟨w.heap.size, 4, none⟩ = some (.slice (some ⟨gb, off, none⟩) ks.length cap) ∧ X.cell? ⟨gb, off + j * 5, none⟩ = some (.int .i64 q0) ∧ X.cell? ⟨gb, off + j * 5 + 1, none⟩ = some (.slice s0 s1 s2) ∧ X.cell? ⟨gb, off + j * 5 + 2, none⟩ = some (.int .i64 q2) ∧ X.cell? ⟨gb, off + j * 5 + 3, none⟩ = some (.int .i64 q3) ∧ X.cell? ⟨gb, off + j * 5 + 4, none⟩ = some (.slice t0 t1 t2) := fun X hX => by
              have hk : ∀ i u, w.cell? ⟨gb, i, none⟩ = some u → X.cell? ⟨gb, i, none⟩ = some u := fun i u hu => (hX.cell (p := ⟨gb, i, none⟩) (by show gb < _; omega)).trans ((hR.bel.cell (p := ⟨gb, i, none⟩) hgs).trans hu)
              exact ⟨(hX.cell (p := ⟨w.heap.size, 4, none⟩) (by show w.heap.size < _; omega)).trans z4, hk _ _ c0, hk _ _ c1, hk _ _ c2, hk _ _ c3, hk _ _ c4⟩
            have HFS : Hid (∀ X, Below (w.heap.size + 2) wr X → X.cell? ⟨w.heap.size, 4, none⟩ = some (.slice (some ⟨gb, off, none⟩) ks.length cap) ∧ X.cell? ⟨gb, off + j * 5, none⟩ = some (.int .i64 q0) ∧ X.cell? ⟨gb, off + j * 5 + 1, none⟩ = some (.slice s0 s1 s2) ∧ X.cell? ⟨gb, off + j * 5 + 2, none⟩ = some (.int .i64 q2) ∧ X.cell? ⟨gb, off + j * 5 + 3, none⟩ = some (.int .i64 q3) ∧ X.cell? ⟨gb, off + j * 5 + 4, none⟩ = some (.slice t0 t1 t2)) := fS
            have i0 : (0 : Int) ≤ (j : Int) := by omega
            have i1 : (j : Int) < (ks.length : Int) := by omega
            have hdr : Below wr.heap.size wr wr.drew := bdrewN (Below.refl _ _) 1
            have HC : Hid (Below (w.heap.size + 2) wr wr.drew) := hdr.mono hwr2
            have HJ : Hid (Below wr.heap.size wr wr.drew) := hdr
            have yd : wr.drew.cell? ⟨C, 4, none⟩ = some (.slice va j vc) := y4
            have HI : Hid (∀ W', Below wr.heap.size wr W' → Calls Try.prog 9 #[.agg #[.int .i64 q0, .slice s0 s1 s2, .int .i64 q2, .int .i64 q3, .slice t0 t1 t2]] W' fun e w' => OnQ ks[j] W' e w') := hI
            have HR : Hid _ := hR
            have HT : Hid _ := And.intro htl (And.intro hwr2 hrow)
            clear fS hI hR htl hkid hform hcell c0 c1 c2 c3 c4 hdr hne hgs hwr2 hrow y0 y1 y2 y3 f0 f1 f2 f3
            go_upto_region 5 with fail
            obtain ⟨k0, k1, k2, k3, k4, k5⟩ := HFS.out _ HC.out
            go_region_law
              (first
                | (go_simp; go_at_call 9; have hq := HI.out _ HJ.out; (with_reducible refine Calls.mono hq ?_); clear hq; rintro e w6 ⟨p0, u0, u1, u2, p2, p3, x0, x1, x2, rfl, hrd, hb6⟩; have hc6 := HJ.out.trans (hb6.mono HJ.out.size); have HJ6 : Hid (Below wr.heap.size wr w6) := hc6; clear HC HJ; have HC : Hid (Below (w.heap.size + 2) wr w6) := hc6.mono HT.out.2.1; have HA : Hid (∀ o, Below (w.heap.size + 2) wr (w6.alloc o)) := fun o => (hc6.alloc hc6.size o).mono HT.out.2.1; have hcop := (HR.out.on hc6).cop; have hy6 : w6.cell? ⟨C, 4, none⟩ = some (.slice va j vc) := (cells5 hcop).1.2.2.2.2; have hy7 : ∀ o, (w6.alloc o).cell? ⟨C, 4, none⟩ = some (.slice va j vc) := fun o => (((Below.refl w6.heap.size w6).alloc (Nat.le_refl _) o).cell (p := ⟨C, 4, none⟩) (lt_of hcop)).trans (cells5 hcop).1.2.2.2.2; have H6 : Hid _ := hrd; clear hrd hb6 hc6 hcop)
                | (refine step_putR w6 i38 z38 hi38 hz0 hzc hz1 hz3 (.tmp 23) (.tmp 30) rfl rfl (w.heap.size + 2) (.slice va j vc) j css'.flatten rfl (row_below HT.out.2.2 HJ6.out) (.int .i64 p0) (.slice u0 u1 u2) (.int .i64 p2) (.int .i64 p3) (.slice x0 x1 x2) (by intro u hu; simp at hu; rcases hu with rfl | rfl | rfl | rfl | rfl <;> rfl) rfl (by omega) (by have := HJ6.out.size; have := HT.out.2.1; omega) ?_; intro g2 cap2 w7 hown7 hf7 hat7 hge7 hlt7; have hcop7 := hf7.at (HR.out.on HJ6.out).cop HR.out.far; obtain ⟨⟨m0, m1, m2, m3, m4⟩, n0, n1, n2, n3, n4⟩ := cells5 hcop7; have H8 : Hid _ := HR.out.snoc HJ6.out H6.out (by rw [HT.out.1]; exact hown7) hf7 hat7 hlt7; have hb7 : Below (w.heap.size + 2) w6 w7 := hf7.toBelow (by have := HJ6.out.size; have := HT.out.2.1; omega) (fun i hi q => by have := (row_base HT.out.2.2 i q).1; omega); have hb8 := HC.out.trans hb7; clear HC HA; have HC : Hid (Below (w.heap.size + 2) wr w7) := hb8; have HP : Hid (∀ v, Below (w.heap.size + 2) wr (w7.setCell ⟨C, 4, none⟩ v)) := fun v => hb8.setCell (p := ⟨C, 4, none⟩) (by have := HR.out.cge; show w.heap.size + 2 ≤ C; omega) v; clear hown7 hf7 hat7 hge7 hlt7 hcop7 hb7 hb8 m0 m1 m2 m3 n0 n1 n2 n3)
                | fail)
            all_goals
              go_wp2_with fail
              go_roundg g
              case measure => omega
              case rel =>
                have h8 := H8.out
                rw [HT.out.1, ← take_snoc hlt] at h8
                exact ⟨j + 1, _, _, by omega, by simp, h8⟩
          · have hjl : j = ks.length := by omega
            subst hjl
            rw [List.take_length] at hR
            obtain ⟨⟨b0, b1, b2, b3, b4⟩, e0, e1, e2, e3, e4⟩ := cells5 hR.res
            have HR : Hid _ := hR
            clear hR htl
            go_wp2_with fail
            have hx := put5_at HR.out.res (.int .i64 k) (.slice a5 s.length c5) (.int .i64 a) (.int .i64 b) (.slice va ks.length vc)
            obtain ⟨⟨k0, k1, k2, k3, k4⟩, _⟩ := cells5 hx
            simp only [put5] at k0 k1 k2 k3 k4
            refine bodyPost_ret (v := rdA (.int .i64 k) (.slice a5 s.length c5) (.int .i64 a) (.int .i64 b) (.slice va ks.length vc)) (by simp [results, Try.results9, go_sem, k0, k1, k2, k3, k4]) rfl ?_
            exact HR.out.fin _ rfl
end Go.Proofs.Ythlkbijpphdblaa
