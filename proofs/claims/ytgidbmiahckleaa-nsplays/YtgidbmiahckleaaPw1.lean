/- NsPlays: the walk. -/
import Derived.Test.YtgidbmiahckleaaPw0
import Derived.Deep.RegionHeld3
namespace Go.Proofs.Ytgidbmiahckleaa
open Go.RowKit
set_option linter.unusedVariables false

theorem ActOk.below {w w' : World} {d : AD} (h : ActOk w d) (hb : Below w.heap.size w w') : ActOk w' d := ⟨h.zn, h.za, h.zl, h.at'.below hb, h.cp, h.zs⟩
theorem len_sub {α : Type} [DecidableEq α] : ∀ (a b : List α), a.Nodup → (∀ x ∈ a, x ∈ b) → a.length ≤ b.length
  | [], _, _, _ => Nat.zero_le _
  | x :: a, b, hn, hs => by
    rw [List.nodup_cons] at hn
    have hx := hs x (by simp)
    have h1 := len_sub a (b.erase x) hn.2 (fun y hy => (List.mem_erase_of_ne (by intro e; subst e; exact hn.1 hy)).2 (hs y (by simp [hy])))
    have h2 := List.length_erase_of_mem hx
    have h3 := List.length_pos_of_mem hx
    simp only [List.length_cons]
    omega
open Classical in
/-- What is left behind a Close is not more. -/
theorem close_len {O : Nat → Prop} {w w' : World} {P : Nat} {l l' : Bs} {h : Hs} {stk : List Hs} (hS : SS O w P l (h :: stk)) (hS' : SS O w' P l' stk) (he : spc l' = rst (spc l) h) : l'.length ≤ l.length := by
  have := len_sub (l'.map (fun p : ByteArray × ByteArray => p.1)) (l.map (fun p : ByteArray × ByteArray => p.1)) hS'.nk (fun s hs => Classical.byContradiction fun hn => ?_)
  · simpa using this
  · have h1 : spc l s = none := lkp_none.2 hn
    have h2 : lkp h s = none := by
      cases hq : lkp h s with
      | none => rfl
      | some v =>
        have hm := (lkp_mem hS.gd.1).1 hq
        have := hS.gd.2.1 _ hm
        rw [h1] at this
        simp at this
    have h3 : spc l' s = none := by
      rw [he]
      unfold rst
      rw [h2]
      exact h1
    exact lkp_none.1 h3 hs
set_option maxRecDepth 100000 in
set_option maxHeartbeats 6400000 in
theorem plays_s (a0 : Option Addr) (c0 : Nat) (l0 : List AD) (w : World) (hA0 : ActO w a0 l0) : Calls Try.prog 3 #[.slice a0 l0.length c0] w fun e w' => e = .returned (.bool true) ∧ Below w.heap.size w w' := by
  have HA : Hid _ := hA0
  clear hA0
  have hq := eq37
  have hF0 := fun W (hb : Below w.heap.size w W) => few_s2 a0 c0 l0 W (by
    rcases HA.out with h | ⟨g, off, rfl, h1, h2, h3⟩
    · exact .inl h
    · refine .inr ⟨g, off, rfl, Nat.lt_of_lt_of_le h1 hb.size, h2, fun i hi => ?_⟩
      obtain ⟨q0, q1, q2, q3, q4⟩ := h3 i hi
      exact ⟨(hb.cell h1).trans q0, (hb.cell h1).trans q1, (hb.cell h1).trans q2, (hb.cell h1).trans q3, q4.below hb⟩)
  have HF : Hid _ := hF0
  clear hF0
  go_enter Try.func3, Try.ntmps3
  go_wp2_with (first | (go_at_call 7; refine Calls.mono (known_s _) ?_; rintro e w1 ⟨rfl, hb1⟩))
  refine Calls.mono (HF.out _ hb1) ?_
  rintro e w2 ⟨b0, rfl, hf0, hb2⟩
  have HF0 : Hid _ := hf0
  clear hf0
  have hb2' := hb1.trans (hb2.mono hb1.size)
  cases b0
  · go_wp2_with fail
    go_ret
    exact ⟨rfl, hb2'⟩
  obtain ⟨hl0, hm0⟩ := HF0.out (by simp)
  have HN : Hid _ := And.intro (PI.start hb2') hm0
  clear hm0 HF0 hb2 HF hb1 hb2'
  go_wp2_with (first | (go_at_call 9; refine Calls.mono (new_s _) ?_; rintro e w' ⟨rfl, rfl⟩))
  generalize hP : w2.heap.size = P at *
  generalize ((w2.alloc (.cells #[.map none, .slice none 0 0] 81)).alloc (.cells #[.slice none 0 0] 30)) = wN at *
  go_loopg [5] l0.length (fun m v5 wr => ∃ (i : Nat) (O B : Nat → Prop) (l : Bs) (stk : List Hs) (L : List Bs), v5 = .int .i64 i ∧ i + m = l0.length ∧ PI w P (P + 1) O B l stk L wr ∧ l.length ≤ i * 16384 ∧ L.length ≤ i ∧ L.flatten.length ≤ i * 16384)
  case atStart => exact ⟨0, _, _, [], [], [], rfl, by omega, HN.out.1, by simp, by simp, by simp⟩
  case round =>
    obtain ⟨i, O, B, l, stk, L, rfl, him, hpi, hll, hLl, hLf⟩ := hrel
    have hlen := hpi.lv.len
    rw [List.length_reverse] at hlen
    by_cases hi : i < l0.length
    · obtain ⟨m, rfl⟩ : ∃ m, gk = m + 1 := ⟨gk - 1, by omega⟩
      rcases HA.out with he | ⟨g, off, rfl, hgl, _, hcell⟩
      · rw [he] at hi; simp at hi
      obtain ⟨q0, q1, q2, q3, q4⟩ := hcell i hi
      have hdc := HN.out.2 (l0[i]'hi) (List.getElem_mem hi)
      have e0 := (hpi.bel.cell (p := ⟨g, off + i * 4, none⟩) hgl).trans q0
      have e1 := (hpi.bel.cell (p := ⟨g, off + i * 4 + 1, none⟩) hgl).trans q1
      have e2 := (hpi.bel.cell (p := ⟨g, off + i * 4 + 2, none⟩) hgl).trans q2
      have e3 := (hpi.bel.cell (p := ⟨g, off + i * 4 + 3, none⟩) hgl).trans q3
      generalize (l0[i]'hi) = D at *
      obtain ⟨op, nm, aa, ac', ats, ask⟩ := D
      obtain ⟨d1, d2, d3, d4⟩ := hdc
      dsimp only at *
      have hbA : Below wr.heap.size wr (wr.alloc (.cells #[.int .i64 op, .string nm, .slice aa ats.length ac', .string ask] 33)) := (Below.refl _ _).alloc (Nat.le_refl _) _
      have hAb := nw_heap wr (.cells #[.int .i64 op, .string nm, .slice aa ats.length ac', .string ask] 33)
      have hpiA := hpi.below hbA
      have hOA : ¬ O wr.heap.size := fun q => by have := hpi.ss.sc.lt _ q; omega
      have hQA : P + 1 < wr.heap.size := by obtain ⟨v, h1, _⟩ := hpi.rs.ex; exact lt_of h1
      have HI : Hid _ := And.intro hpiA (And.intro q4 (And.intro hAb (And.intro d4 hOA)))
      clear hpi hbA hAb hOA hpiA q0 q1 q2 q3 q4 d4 hcell
      have hszA : (wr.alloc (.cells #[.int .i64 op, .string nm, .slice aa ats.length ac', .string ask] 33)).heap.size = wr.heap.size + 1 := sza _ _
      by_cases hop : op = 1
      · subst hop
        cases stk with
        | nil =>
          have hL0 : L = [] := List.eq_nil_of_length_eq_zero (by simpa using hlen.symm)
          have HL0 : Hid _ := hL0
          clear hL0
          go_upto_region 19 with (first | (go_at_call 10; refine Calls.mono (close_nil HI.out.1.ss.sc) ?_; rintro e w' ⟨rfl, rfl⟩) | (go_at_call 11; refine Calls.mono (close_r0 (by have := HI.out.1.rs.rs; rw [HL0.out] at this; exact this)) ?_; rintro e w' ⟨rfl, rfl⟩))
          obtain ⟨W, hW⟩ : ∃ W, W = (wr.alloc (.cells #[.int .i64 1, .string nm, .slice aa ats.length ac', .string ask] 33)) := ⟨_, rfl⟩
          rw [← hW]
          have HP : Hid _ := HI.out.1
          have hAc := HI.out.2.2.1
          rw [← hW] at HP hAc
          clear HI hW hszA
          have hlx : l.length ≤ (i + 1) * 16384 := by omega
          have hLx : L.length ≤ i + 1 := by omega
          have hLx2 : L.flatten.length ≤ (i + 1) * 16384 := by omega
          clear HL0 hlen
          have c3 := (bl4 hAc).1.2.2.2
          have hAlt := lt_of hAc
          have hres := resolve_sc HP.out.ss.sc ask (by unfold maxLen; omega)
          rw [res_rel HP.out.lv.rel.1] at hres
          have hspr := space_rel HP.out.lv.rel.1 ask
          have hres2 := fun W' (hb : Below W.heap.size W W') => resolve_r (HP.out.below hb).rs.rs ask (by omega)
          have hsp1 := fun W' (hb : Below W.heap.size W W') => space_sc (HP.out.below hb).ss.sc ask
          have hsp2 := fun W' (hb : Below W.heap.size W W') => space_r (HP.out.below hb).rs.rs ask
          rw [hspr] at hsp1
          generalize resR L ask = r at *
          obtain ⟨r1, r2, r3⟩ := r
          generalize spaceR L ask = sp at *
          obtain ⟨s1, s2⟩ := sp
          dsimp only at *
          have HRS : Hid _ := And.intro hres (And.intro hres2 (And.intro hsp1 (And.intro hsp2 hAc)))
          clear hres hspr hres2 hsp1 hsp2 hAc
          go_wp2_with fail
          refine Calls.mono HRS.out.1 ?_
          rintro e u1 ⟨rfl, hbu1⟩
          have hbu1a : Below W.heap.size W (u1.alloc (.cells #[.string r1, .string r2] 37)) := hbu1.alloc hbu1.size _
          have hsu1 := hbu1.size
          have cu1 := (bl4 ((hbu1a.block _ (lt_of HRS.out.2.2.2.2)).trans HRS.out.2.2.2.2)).1.2.2.2
          have nu1 := nw_heap u1 (.cells #[.string r1, .string r2] 37)
          have HU1 : Hid _ := And.intro hbu1a nu1
          clear hbu1a nu1 hbu1
          go_wp2_with fail
          refine Calls.mono (HRS.out.2.1 _ HU1.out.1) ?_
          rintro e u2 ⟨rfl, hbu2⟩
          have hsu2 := hbu2.size
          rw [sza] at hsu2
          have hbu2a : Below W.heap.size W (u2.alloc (.cells #[.string r1, .string r2] 37)) := (HU1.out.1.trans (hbu2.mono HU1.out.1.size)).alloc (by omega) _
          have hb22a : Below u2.heap.size u2 (u2.alloc (.cells #[.string r1, .string r2] 37)) := (Below.refl _ _).alloc (Nat.le_refl _) _
          have cu2 := (bl4 ((hbu2a.block _ (lt_of HRS.out.2.2.2.2)).trans HRS.out.2.2.2.2)).1.2.2.2
          have nu2 := (hbu2.block _ (lt_of HU1.out.2)).trans HU1.out.2
          have nu2a := (hb22a.block _ (lt_of nu2)).trans nu2
          have mu2a := nw_heap u2 (.cells #[.string r1, .string r2] 37)
          have HU2 : Hid _ := And.intro hbu2a (And.intro nu2a mu2a)
          clear hbu2a hb22a nu2 nu2a mu2a hbu2 HU1 cu1
          go_wp2_with fail
          refine Calls.mono (HRS.out.2.2.1 _ HU2.out.1) ?_
          rintro e u3 ⟨rfl, hbu3⟩
          have hsu3 := hbu3.size
          rw [sza] at hsu3
          have hbw3 := HU2.out.1.trans (hbu3.mono HU2.out.1.size)
          have cu3 := (bl4 ((hbw3.block _ (lt_of HRS.out.2.2.2.2)).trans HRS.out.2.2.2.2)).1.2.2.2
          have n3 := (hbu3.block _ (lt_of HU2.out.2.1)).trans HU2.out.2.1
          have m3 := (hbu3.block _ (lt_of HU2.out.2.2)).trans HU2.out.2.2
          obtain ⟨n30, n31, _, _⟩ := fresh2 n3
          obtain ⟨m30, m31, _, _⟩ := fresh2 m3
          have hp3 := HP.out.below hbw3
          obtain ⟨qv, hq3, qa, qc, hqe, _⟩ := hp3.rs.ex
          subst hqe
          have q30 : u3.cell? ⟨P + 1, 0, none⟩ = some (.slice qa (L).length qc) := by simp only [World.cell?, hq3]; rfl
          have hlen3 : ([] : List Hs).reverse.length = (L).length := by have := hp3.lv.len; rw [List.length_reverse] at this ⊢; exact this
          have hdep := fun W' (hb : Below u3.heap.size u3 W') => depth_sc (hp3.below hb).ss.sc
          rw [hlen3] at hdep
          have hlt14 := lt_of n3
          have hlt16 := lt_of m3
          have hltQ := lt_of hq3
          have HU3 : Hid _ := And.intro hp3 (And.intro hbw3 (And.intro hdep (And.intro (fun W' (hb : Below u3.heap.size u3 W') => (hp3.below hb).binds (by omega)) (fun W' (hb : Below u3.heap.size u3 W') => binds_r (hp3.below hb).rs.rs (by omega)))))
          clear hp3 hbw3 n3 m3 hq3 hdep HU2 hbu3 cu2 hlen3
          go_wp2_with fail
          refine Calls.mono (HRS.out.2.2.2.1 _ HU3.out.2.1) ?_
          rintro e u4 ⟨rfl, hww⟩
          subst hww
          have HB0 : Hid (Below u4.heap.size u4 (u4.drewN 1)) := Below.drewN' 1
          have HCC : Hid ((u4.cell? ⟨u1.heap.size, 0, none⟩ = some (.string r1) ∧ u4.cell? ⟨u1.heap.size, 1, none⟩ = some (.string r2)) ∧ (u4.cell? ⟨u2.heap.size, 0, none⟩ = some (.string r1) ∧ u4.cell? ⟨u2.heap.size, 1, none⟩ = some (.string r2)) ∧ u4.cell? ⟨P + 1, 0, none⟩ = some (.slice qa (L).length qc)) := ⟨⟨n30, n31⟩, ⟨m30, m31⟩, q30⟩
          have hkeep : ∀ W', Below u4.heap.size u4 W' → ((W'.cell? ⟨u1.heap.size, 0, none⟩ = some (.string r1) ∧ W'.cell? ⟨u1.heap.size, 1, none⟩ = some (.string r2)) ∧ (W'.cell? ⟨u2.heap.size, 0, none⟩ = some (.string r1) ∧ W'.cell? ⟨u2.heap.size, 1, none⟩ = some (.string r2)) ∧ W'.cell? ⟨P + 1, 0, none⟩ = some (.slice qa (L).length qc)) := fun W' hb => ⟨⟨(hb.cell (p := ⟨u1.heap.size, 0, none⟩) hlt14).trans HCC.out.1.1, (hb.cell (p := ⟨u1.heap.size, 1, none⟩) hlt14).trans HCC.out.1.2⟩, ⟨(hb.cell (p := ⟨u2.heap.size, 0, none⟩) hlt16).trans HCC.out.2.1.1, (hb.cell (p := ⟨u2.heap.size, 1, none⟩) hlt16).trans HCC.out.2.1.2⟩, (hb.cell (p := ⟨P + 1, 0, none⟩) hltQ).trans HCC.out.2.2⟩
          have HKE : Hid _ := hkeep
          clear hkeep HRS c3 cu3 e0 e1 e2 e3
          go_wp2_with fail
          go_region_held3 (fun W => W.cell? ⟨u1.heap.size, 0, none⟩ = some (.string r1) ∧ W.cell? ⟨u1.heap.size, 1, none⟩ = some (.string r2) ∧ W.cell? ⟨u2.heap.size, 0, none⟩ = some (.string r1) ∧ W.cell? ⟨u2.heap.size, 1, none⟩ = some (.string r2) ∧ W.cell? ⟨P + 1, 0, none⟩ = some (.slice qa (L).length qc)) (go_keep) (first
            | (go_at_call 20; refine Calls.mono (HU3.out.2.2.1 _ HB0.out) ?_; rintro e w' ⟨rfl, rfl⟩)
            | (go_at_call 22; refine Calls.mono (HU3.out.2.2.2.1 _ (by first | exact HB23.out | exact HB0.out)) ?_; rintro e w22 ⟨x22, rfl, hr22, hb22⟩; have hbb : Below u4.heap.size u4 w22 := Below.trans (by first | exact HB23.out | exact HB0.out) (hb22.mono (Below.size (by first | exact HB23.out | exact HB0.out))); obtain ⟨⟨g1, g2⟩, ⟨g3, g4⟩, g5⟩ := HKE.out _ hbb; have HB22 : Hid _ := hbb; have H22 : Hid _ := And.intro hr22 hb22; clear hbb hr22 hb22)
            | (go_at_call 23; refine Calls.mono (HU3.out.2.2.2.2 _ (by first | exact HB22.out | exact HB0.out)) ?_; rintro e w23 ⟨x23, rfl, hr23, hb23⟩; have hbb : Below u4.heap.size u4 w23 := Below.trans (by first | exact HB22.out | exact HB0.out) (hb23.mono (Below.size (by first | exact HB22.out | exact HB0.out))); obtain ⟨⟨g1, g2⟩, ⟨g3, g4⟩, g5⟩ := HKE.out _ hbb; have HB23 : Hid _ := hbb; have H23 : Hid _ := And.intro hr23 hb23; clear hbb hr23 hb23)
            | (go_at_call 21; (first | refine Calls.mono (binds_eq (RowB.below H22.out.1 H23.out.2) H23.out.1) ?_ | refine Calls.mono (binds_eq H22.out.1 (RowB.below H23.out.1 H22.out.2)) ?_); rintro e w21 ⟨rfl, hb21⟩; have hbb : Below u4.heap.size u4 w21 := Below.trans (by first | exact HB23.out | exact HB22.out) (hb21.mono (Below.size (by first | exact HB23.out | exact HB22.out))); obtain ⟨⟨g1, g2⟩, ⟨g3, g4⟩, g5⟩ := HKE.out _ hbb; have HB21 : Hid _ := hbb; clear hbb hb21)
            | (go_at_call 24; refine Calls.mono (xsi_p r1 r2 _) ?_; rintro e w24 ⟨rfl, hb24⟩; have hbb : Below u4.heap.size u4 w24 := Below.trans (by first | exact HB25.out | exact HB21.out) (hb24.mono (Below.size (by first | exact HB25.out | exact HB21.out))); obtain ⟨⟨g1, g2⟩, ⟨g3, g4⟩, g5⟩ := HKE.out _ hbb; have HB24 : Hid _ := hbb; clear hbb hb24)
            | (go_at_call 25; refine Calls.mono (xsi_r r1 r2 _) ?_; rintro e w25 ⟨rfl, hb25⟩; have hbb : Below u4.heap.size u4 w25 := Below.trans (by first | exact HB24.out | exact HB21.out) (hb25.mono (Below.size (by first | exact HB24.out | exact HB21.out))); obtain ⟨⟨g1, g2⟩, ⟨g3, g4⟩, g5⟩ := HKE.out _ hbb; have HB25 : Hid _ := hbb; clear hbb hb25))
          all_goals
            go_wp2_with fail
            go_roundg m
            case measure => omega
            case rel => exact ⟨i + 1, _, _, _, _, _, rfl, by omega, HU3.out.1.below (by first | exact HB25.out | exact HB24.out), hlx, hLx, hLx2⟩
        | cons h stk =>
          obtain ⟨L0, b, rfl⟩ : ∃ L0 b, L = L0 ++ [b] := by
            rcases List.eq_nil_or_concat L with e | ⟨L0, b, e⟩
            · rw [e] at hlen; simp at hlen
            · exact ⟨L0, b, by simpa using e⟩
          go_wp2_with fail
          refine Calls.mono (close_any HI.out.1.ss (by simp at hlen hLl; omega)) ?_
          rintro e w3 ⟨rfl, hf3, l', hS3, he3⟩
          obtain ⟨hr3, hb3⟩ := HI.out.1.mid hf3
          obtain ⟨v, hv, hrl⟩ := hr3.ex
          have hrl' := hrl
          obtain ⟨a3, c3, rfl, k1, k2, _⟩ := hrl'
          simp only [List.length_append, List.length_cons, List.length_nil, Nat.zero_add] at hv hrl k1
          have hA3 := (hf3.block _ (lt_of HI.out.2.2.1) HI.out.2.2.2.2).trans HI.out.2.2.1
          have hl3 := close_len HI.out.1.ss hS3 he3
          have HC : Hid _ := And.intro hf3 (And.intro hS3 (And.intro he3 (And.intro hrl (And.intro hv (And.intro k1 (And.intro k2 (And.intro hA3 hl3)))))))
          clear hf3 hS3 he3 hr3 hb3 hrl hv k1 k2 hA3 hl3
          go_wp2_with fail
          refine Calls.mono (close_r HC.out.2.2.2.2.1 HC.out.2.2.2.2.2.1 HC.out.2.2.2.2.2.2.1) ?_
          rintro e w4 ⟨rfl, hQ4, hf4⟩
          have hpc := PI.closed HI.out.1 HC.out.1 HC.out.2.1 HC.out.2.2.1 HC.out.2.2.2.1 rfl hQ4 hf4
          have hA4 := (hf4.block _ (lt_of HC.out.2.2.2.2.2.2.2.1) (by omega)).trans HC.out.2.2.2.2.2.2.2.1
          have hl4 := HC.out.2.2.2.2.2.2.2.2
          have HP : Hid _ := hpc
          clear hpc hQ4 hf4 HC HI
          go_upto_region 19 with fail
          have hlx : l'.length ≤ (i + 1) * 16384 := by omega
          have hLx : L0.length ≤ i + 1 := by simp at hLl; omega
          have hLx2 : L0.flatten.length ≤ (i + 1) * 16384 := by
            have hfl : (L0 ++ [b]).flatten.length = L0.flatten.length + b.length := by rw [List.flatten_append, List.length_append]; simp
            omega
          clear hlen hszA hLl hLf
          have c3 := (bl4 hA4).1.2.2.2
          have hAlt := lt_of hA4
          have hres := resolve_sc HP.out.ss.sc ask (by unfold maxLen; omega)
          rw [res_rel HP.out.lv.rel.1] at hres
          have hspr := space_rel HP.out.lv.rel.1 ask
          have hres2 := fun W' (hb : Below w4.heap.size w4 W') => resolve_r (HP.out.below hb).rs.rs ask (by omega)
          have hsp1 := fun W' (hb : Below w4.heap.size w4 W') => space_sc (HP.out.below hb).ss.sc ask
          have hsp2 := fun W' (hb : Below w4.heap.size w4 W') => space_r (HP.out.below hb).rs.rs ask
          rw [hspr] at hsp1
          generalize resR L0 ask = r at *
          obtain ⟨r1, r2, r3⟩ := r
          generalize spaceR L0 ask = sp at *
          obtain ⟨s1, s2⟩ := sp
          dsimp only at *
          have HRS : Hid _ := And.intro hres (And.intro hres2 (And.intro hsp1 (And.intro hsp2 hA4)))
          clear hres hspr hres2 hsp1 hsp2 hA4
          go_wp2_with fail
          refine Calls.mono HRS.out.1 ?_
          rintro e u1 ⟨rfl, hbu1⟩
          have hbu1a : Below w4.heap.size w4 (u1.alloc (.cells #[.string r1, .string r2] 37)) := hbu1.alloc hbu1.size _
          have hsu1 := hbu1.size
          have cu1 := (bl4 ((hbu1a.block _ (lt_of HRS.out.2.2.2.2)).trans HRS.out.2.2.2.2)).1.2.2.2
          have nu1 := nw_heap u1 (.cells #[.string r1, .string r2] 37)
          have HU1 : Hid _ := And.intro hbu1a nu1
          clear hbu1a nu1 hbu1
          go_wp2_with fail
          refine Calls.mono (HRS.out.2.1 _ HU1.out.1) ?_
          rintro e u2 ⟨rfl, hbu2⟩
          have hsu2 := hbu2.size
          rw [sza] at hsu2
          have hbu2a : Below w4.heap.size w4 (u2.alloc (.cells #[.string r1, .string r2] 37)) := (HU1.out.1.trans (hbu2.mono HU1.out.1.size)).alloc (by omega) _
          have hb22a : Below u2.heap.size u2 (u2.alloc (.cells #[.string r1, .string r2] 37)) := (Below.refl _ _).alloc (Nat.le_refl _) _
          have cu2 := (bl4 ((hbu2a.block _ (lt_of HRS.out.2.2.2.2)).trans HRS.out.2.2.2.2)).1.2.2.2
          have nu2 := (hbu2.block _ (lt_of HU1.out.2)).trans HU1.out.2
          have nu2a := (hb22a.block _ (lt_of nu2)).trans nu2
          have mu2a := nw_heap u2 (.cells #[.string r1, .string r2] 37)
          have HU2 : Hid _ := And.intro hbu2a (And.intro nu2a mu2a)
          clear hbu2a hb22a nu2 nu2a mu2a hbu2 HU1 cu1
          go_wp2_with fail
          refine Calls.mono (HRS.out.2.2.1 _ HU2.out.1) ?_
          rintro e u3 ⟨rfl, hbu3⟩
          have hsu3 := hbu3.size
          rw [sza] at hsu3
          have hbw3 := HU2.out.1.trans (hbu3.mono HU2.out.1.size)
          have cu3 := (bl4 ((hbw3.block _ (lt_of HRS.out.2.2.2.2)).trans HRS.out.2.2.2.2)).1.2.2.2
          have n3 := (hbu3.block _ (lt_of HU2.out.2.1)).trans HU2.out.2.1
          have m3 := (hbu3.block _ (lt_of HU2.out.2.2)).trans HU2.out.2.2
          obtain ⟨n30, n31, _, _⟩ := fresh2 n3
          obtain ⟨m30, m31, _, _⟩ := fresh2 m3
          have hp3 := HP.out.below hbw3
          obtain ⟨qv, hq3, qa, qc, hqe, _⟩ := hp3.rs.ex
          subst hqe
          have q30 : u3.cell? ⟨P + 1, 0, none⟩ = some (.slice qa (L0).length qc) := by simp only [World.cell?, hq3]; rfl
          have hlen3 : stk.reverse.length = (L0).length := by have := hp3.lv.len; rw [List.length_reverse] at this ⊢; exact this
          have hdep := fun W' (hb : Below u3.heap.size u3 W') => depth_sc (hp3.below hb).ss.sc
          rw [hlen3] at hdep
          have hlt14 := lt_of n3
          have hlt16 := lt_of m3
          have hltQ := lt_of hq3
          have HU3 : Hid _ := And.intro hp3 (And.intro hbw3 (And.intro hdep (And.intro (fun W' (hb : Below u3.heap.size u3 W') => (hp3.below hb).binds (by omega)) (fun W' (hb : Below u3.heap.size u3 W') => binds_r (hp3.below hb).rs.rs (by omega)))))
          clear hp3 hbw3 n3 m3 hq3 hdep HU2 hbu3 cu2 hlen3
          go_wp2_with fail
          refine Calls.mono (HRS.out.2.2.2.1 _ HU3.out.2.1) ?_
          rintro e u4 ⟨rfl, hww⟩
          subst hww
          have HB0 : Hid (Below u4.heap.size u4 (u4.drewN 1)) := Below.drewN' 1
          have HCC : Hid ((u4.cell? ⟨u1.heap.size, 0, none⟩ = some (.string r1) ∧ u4.cell? ⟨u1.heap.size, 1, none⟩ = some (.string r2)) ∧ (u4.cell? ⟨u2.heap.size, 0, none⟩ = some (.string r1) ∧ u4.cell? ⟨u2.heap.size, 1, none⟩ = some (.string r2)) ∧ u4.cell? ⟨P + 1, 0, none⟩ = some (.slice qa (L0).length qc)) := ⟨⟨n30, n31⟩, ⟨m30, m31⟩, q30⟩
          have hkeep : ∀ W', Below u4.heap.size u4 W' → ((W'.cell? ⟨u1.heap.size, 0, none⟩ = some (.string r1) ∧ W'.cell? ⟨u1.heap.size, 1, none⟩ = some (.string r2)) ∧ (W'.cell? ⟨u2.heap.size, 0, none⟩ = some (.string r1) ∧ W'.cell? ⟨u2.heap.size, 1, none⟩ = some (.string r2)) ∧ W'.cell? ⟨P + 1, 0, none⟩ = some (.slice qa (L0).length qc)) := fun W' hb => ⟨⟨(hb.cell (p := ⟨u1.heap.size, 0, none⟩) hlt14).trans HCC.out.1.1, (hb.cell (p := ⟨u1.heap.size, 1, none⟩) hlt14).trans HCC.out.1.2⟩, ⟨(hb.cell (p := ⟨u2.heap.size, 0, none⟩) hlt16).trans HCC.out.2.1.1, (hb.cell (p := ⟨u2.heap.size, 1, none⟩) hlt16).trans HCC.out.2.1.2⟩, (hb.cell (p := ⟨P + 1, 0, none⟩) hltQ).trans HCC.out.2.2⟩
          have HKE : Hid _ := hkeep
          clear hkeep HRS c3 cu3 e0 e1 e2 e3
          go_wp2_with fail
          go_region_held3 (fun W => W.cell? ⟨u1.heap.size, 0, none⟩ = some (.string r1) ∧ W.cell? ⟨u1.heap.size, 1, none⟩ = some (.string r2) ∧ W.cell? ⟨u2.heap.size, 0, none⟩ = some (.string r1) ∧ W.cell? ⟨u2.heap.size, 1, none⟩ = some (.string r2) ∧ W.cell? ⟨P + 1, 0, none⟩ = some (.slice qa (L0).length qc)) (go_keep) (first
            | (go_at_call 20; refine Calls.mono (HU3.out.2.2.1 _ HB0.out) ?_; rintro e w' ⟨rfl, rfl⟩)
            | (go_at_call 22; refine Calls.mono (HU3.out.2.2.2.1 _ (by first | exact HB23.out | exact HB0.out)) ?_; rintro e w22 ⟨x22, rfl, hr22, hb22⟩; have hbb : Below u4.heap.size u4 w22 := Below.trans (by first | exact HB23.out | exact HB0.out) (hb22.mono (Below.size (by first | exact HB23.out | exact HB0.out))); obtain ⟨⟨g1, g2⟩, ⟨g3, g4⟩, g5⟩ := HKE.out _ hbb; have HB22 : Hid _ := hbb; have H22 : Hid _ := And.intro hr22 hb22; clear hbb hr22 hb22)
            | (go_at_call 23; refine Calls.mono (HU3.out.2.2.2.2 _ (by first | exact HB22.out | exact HB0.out)) ?_; rintro e w23 ⟨x23, rfl, hr23, hb23⟩; have hbb : Below u4.heap.size u4 w23 := Below.trans (by first | exact HB22.out | exact HB0.out) (hb23.mono (Below.size (by first | exact HB22.out | exact HB0.out))); obtain ⟨⟨g1, g2⟩, ⟨g3, g4⟩, g5⟩ := HKE.out _ hbb; have HB23 : Hid _ := hbb; have H23 : Hid _ := And.intro hr23 hb23; clear hbb hr23 hb23)
            | (go_at_call 21; (first | refine Calls.mono (binds_eq (RowB.below H22.out.1 H23.out.2) H23.out.1) ?_ | refine Calls.mono (binds_eq H22.out.1 (RowB.below H23.out.1 H22.out.2)) ?_); rintro e w21 ⟨rfl, hb21⟩; have hbb : Below u4.heap.size u4 w21 := Below.trans (by first | exact HB23.out | exact HB22.out) (hb21.mono (Below.size (by first | exact HB23.out | exact HB22.out))); obtain ⟨⟨g1, g2⟩, ⟨g3, g4⟩, g5⟩ := HKE.out _ hbb; have HB21 : Hid _ := hbb; clear hbb hb21)
            | (go_at_call 24; refine Calls.mono (xsi_p r1 r2 _) ?_; rintro e w24 ⟨rfl, hb24⟩; have hbb : Below u4.heap.size u4 w24 := Below.trans (by first | exact HB25.out | exact HB21.out) (hb24.mono (Below.size (by first | exact HB25.out | exact HB21.out))); obtain ⟨⟨g1, g2⟩, ⟨g3, g4⟩, g5⟩ := HKE.out _ hbb; have HB24 : Hid _ := hbb; clear hbb hb24)
            | (go_at_call 25; refine Calls.mono (xsi_r r1 r2 _) ?_; rintro e w25 ⟨rfl, hb25⟩; have hbb : Below u4.heap.size u4 w25 := Below.trans (by first | exact HB24.out | exact HB21.out) (hb25.mono (Below.size (by first | exact HB24.out | exact HB21.out))); obtain ⟨⟨g1, g2⟩, ⟨g3, g4⟩, g5⟩ := HKE.out _ hbb; have HB25 : Hid _ := hbb; clear hbb hb25))
          all_goals
            go_wp2_with fail
            go_roundg m
            case measure => omega
            case rel => exact ⟨i + 1, _, _, _, _, _, rfl, by omega, HU3.out.1.below (by first | exact HB25.out | exact HB24.out), hlx, hLx, hLx2⟩
      · have hbE : Below (wr.alloc (.cells #[.int .i64 op, .string nm, .slice aa ats.length ac', .string ask] 33)).heap.size (wr.alloc (.cells #[.int .i64 op, .string nm, .slice aa ats.length ac', .string ask] 33)) ((wr.alloc (.cells #[.int .i64 op, .string nm, .slice aa ats.length ac', .string ask] 33)).alloc (.cells #[.int .i64 1, .int .i64 (3 * i), .string nm, .string ⟨#[]⟩, .slice aa ats.length ac'] 35)) := (Below.refl _ _).alloc (Nat.le_refl _) _
        have hpE := HI.out.1.below hbE
        have hAE := (hbE.block _ (lt_of HI.out.2.2.1)).trans HI.out.2.2.1
        have hEb := nw_heap (wr.alloc (.cells #[.int .i64 op, .string nm, .slice aa ats.length ac', .string ask] 33)) (.cells #[.int .i64 1, .int .i64 (3 * i), .string nm, .string ⟨#[]⟩, .slice aa ats.length ac'] 35)
        rw [sza] at hEb
        have hOE : ¬ O (wr.heap.size + 1) := fun q => by have := HI.out.1.ss.sc.lt _ q; simp only [sza] at this; omega
        have hop1 := open_p hpE.ss hpE.lv 1 (3 * i) nm ⟨#[]⟩ (by unfold maxLen; omega) (a := aa) (cap := ac') (ats := ats) (HI.out.2.1.at'.below hpE.bel) HI.out.2.1.cp (fun hne g' off' e q => by
          rcases HI.out.2.1.at' with e' | ⟨g2, off2, e', hg', _⟩
          · exact hne e'
          · dsimp only at e'
            rw [e'] at e; simp at e
            have := (hpE.oq g' q).2.2
            omega) (by omega) (by omega)
        have HE : Hid _ := And.intro hpE (And.intro hAE (And.intro hEb (And.intro hOE hop1)))
        clear hbE hpE hAE hEb hOE hop1
        generalize hT : tT (opR L nm (3 * i) ats) (3 * i) = T at *
        obtain ⟨t1, t2, tout, t4, t5, t6⟩ := T
        have HT : Hid _ := hT
        clear hT
        dsimp only at *
        go_wp2_with fail
        refine Calls.mono HE.out.2.2.2.2 ?_
        rintro e w3 ⟨sv, O', l', stk', rfl, hrA, hsvb, hf3, hO3, hS3, hL3, hl3⟩
        obtain ⟨hr3, hb3⟩ := HE.out.1.mid hf3
        have hszE : ((wr.alloc (.cells #[.int .i64 op, .string nm, .slice aa ats.length ac', .string ask] 33)).alloc (.cells #[.int .i64 1, .int .i64 (3 * i), .string nm, .string ⟨#[]⟩, .slice aa ats.length ac'] 35)).heap.size = wr.heap.size + 1 + 1 := by rw [sza, sza]
        have hsz3 := hf3.size
        rw [hszE] at hsz3
        have hA3 := (hf3.block _ (lt_of HE.out.2.1) HI.out.2.2.2.2).trans HE.out.2.1
        have hE3 := (hf3.block _ (lt_of HE.out.2.2.1) HE.out.2.2.2.1).trans HE.out.2.2.1
        have hb34 : Below w3.heap.size w3 (w3.alloc (.cells #[.string t1, .string t2, sv, .int .i64 t4] 40)) := (Below.refl _ _).alloc (Nat.le_refl _) _
        have hA4 := (hb34.block _ (lt_of hA3)).trans hA3
        have hE4 := (hb34.block _ (lt_of hE3)).trans hE3
        have hT4 := nw_heap w3 (.cells #[.string t1, .string t2, sv, .int .i64 t4] 40)
        obtain ⟨sa, sc, rfl⟩ : ∃ sa sc, sv = .slice sa tout.length sc := by
          obtain ⟨a, c, e, _⟩ := hrA
          exact ⟨a, c, e⟩
        obtain ⟨⟨x0, x1, x2, x3, x4⟩, _⟩ := bl5 hE4
        have hof := of_e (w := w3.alloc (.cells #[.string t1, .string t2, .slice sa tout.length sc, .int .i64 t4] 40)) 1 (3 * i) nm ⟨#[]⟩ (a := aa) (c := ac') (l := ats) ((HI.out.2.1.at'.below hb3).below hb34) (by omega) (fun x hx => by have := (HI.out.2.1.zs x hx).1; unfold maxLen; omega)
        have H3 : Hid _ := And.intro hrA (And.intro hsvb (And.intro hf3 (And.intro hO3 (And.intro hS3 (And.intro hL3 (And.intro hl3 (And.intro hr3 (And.intro hb3 (And.intro hb34 (And.intro hA4 (And.intro hT4 hof)))))))))))
        clear hrA hsvb hf3 hO3 hS3 hL3 hl3 hr3 hb3 hA3 hE3 hb34 hA4 hE4 hT4 hof hszE
        go_wp2_with fail
        refine Calls.mono H3.out.2.2.2.2.2.2.2.2.2.2.2.2 ?_
        rintro e w5 ⟨ra, rc, rfl, hat5, hb5⟩
        have hsz5 := hb5.size
        rw [sza] at hsz5
        have hb35 := H3.out.2.2.2.2.2.2.2.2.2.1.trans (hb5.mono (by rw [sza]; omega))
        have hoq := open_q (H3.out.2.2.2.2.2.2.2.1.below hb35) 1 (3 * i) nm ⟨#[]⟩ (by omega) (c := rc) hat5 (by omega) (by omega) (fun x hx => by
          obtain ⟨j, hj, rfl⟩ := List.mem_iff_getElem.1 hx
          have := HI.out.2.2.2.1 j hj
          omega)
        rw [HT.out] at hoq
        dsimp only at hoq
        have hA5 := (hb5.block _ (lt_of H3.out.2.2.2.2.2.2.2.2.2.2.1)).trans H3.out.2.2.2.2.2.2.2.2.2.2.1
        have hT5 := (hb5.block _ (lt_of H3.out.2.2.2.2.2.2.2.2.2.2.2.1)).trans H3.out.2.2.2.2.2.2.2.2.2.2.2.1
        have H5 : Hid _ := And.intro hb35 (And.intro hA5 (And.intro hT5 hoq))
        clear hb35 hA5 hT5 hoq hat5 hb5
        go_wp2_with fail
        refine Calls.mono H5.out.2.2.2 ?_
        rintro e w6 ⟨rv, rfl, hrA6, hrs6, hf6⟩
        have hsz6 := hf6.size
        obtain ⟨rva, rvc, rfl⟩ : ∃ sa sc, rv = .slice sa tout.length sc := by
          obtain ⟨a, c, e, _⟩ := hrA6
          exact ⟨a, c, e⟩
        have hb67 : Below w6.heap.size w6 (w6.alloc (.cells #[.string t1, .string t2, .slice rva tout.length rvc, .int .i64 t4] 46)) := (Below.refl _ _).alloc (Nat.le_refl _) _
        have hA6 := (hf6.block _ (lt_of H5.out.2.1) (by omega)).trans H5.out.2.1
        have hT6 := (hf6.block _ (lt_of H5.out.2.2.1) (by omega)).trans H5.out.2.2.1
        have hA7 := (hb67.block _ (lt_of hA6)).trans hA6
        have hT7 := (hb67.block _ (lt_of hT6)).trans hT6
        have hU7 := nw_heap w6 (.cells #[.string t1, .string t2, .slice rva tout.length rvc, .int .i64 t4] 46)
        have hpo := (PI.opened HE.out.1 H3.out.2.2.1 H3.out.2.2.2.1 H3.out.2.2.2.2.1 H3.out.2.2.2.2.2.1 H5.out.1 hrs6 hf6).below hb67
        have hsm := same_eq t1 t2 t4 (((H3.out.1.below H5.out.1).fro hf6 (fun k hk e => by have := H3.out.2.1 k hk; rw [sza, sza] at this; omega)).below hb67) (hrA6.below hb67)
        obtain ⟨⟨y0, y1, y2, y3⟩, _⟩ := bl4 hT7
        obtain ⟨⟨v0, v1, v2, v3⟩, _⟩ := bl4 hU7
        have H7 : Hid _ := And.intro hpo (And.intro hA7 (And.intro hsm (And.intro H3.out.2.2.2.2.2.2.1 (newL_len L nm (3 * i) ats))))
        clear hrA6 hrs6 hf6 hb67 hA6 hT6 hA7 hT7 hU7 hpo hsm
        clear HE H3 H5 HT HI
        go_wp2_with fail
        refine Calls.mono H7.out.2.2.1 ?_
        rintro e w8 ⟨rfl, hb8⟩
        have hp8 := H7.out.1.below hb8
        have hA8 := (hb8.block _ (lt_of H7.out.2.1)).trans H7.out.2.1
        have hl8 := H7.out.2.2.2
        clear hb8 H7
        have HP : Hid _ := hp8
        clear hp8
        go_upto_region 19 with fail
        have hlx : l'.length ≤ (i + 1) * 16384 := by have := hl8.1; omega
        have hLx : (newL L nm (3 * i) ats).length ≤ i + 1 := by have := hl8.2.1; omega
        have hLx2 : (newL L nm (3 * i) ats).flatten.length ≤ (i + 1) * 16384 := by have := hl8.2.2; omega
        clear hl8 hlen hszA x0 x1 x2 x3 x4 y0 y1 y2 y3 v0 v1 v2 v3
        generalize newL L nm (3 * i) ats = Lx at *
        have c3 := (bl4 hA8).1.2.2.2
        have hAlt := lt_of hA8
        have hres := resolve_sc HP.out.ss.sc ask (by unfold maxLen; omega)
        rw [res_rel HP.out.lv.rel.1] at hres
        have hspr := space_rel HP.out.lv.rel.1 ask
        have hres2 := fun W' (hb : Below w8.heap.size w8 W') => resolve_r (HP.out.below hb).rs.rs ask (by omega)
        have hsp1 := fun W' (hb : Below w8.heap.size w8 W') => space_sc (HP.out.below hb).ss.sc ask
        have hsp2 := fun W' (hb : Below w8.heap.size w8 W') => space_r (HP.out.below hb).rs.rs ask
        rw [hspr] at hsp1
        generalize resR Lx ask = r at *
        obtain ⟨r1, r2, r3⟩ := r
        generalize spaceR Lx ask = sp at *
        obtain ⟨s1, s2⟩ := sp
        dsimp only at *
        have HRS : Hid _ := And.intro hres (And.intro hres2 (And.intro hsp1 (And.intro hsp2 hA8)))
        clear hres hspr hres2 hsp1 hsp2 hA8
        go_wp2_with fail
        refine Calls.mono HRS.out.1 ?_
        rintro e u1 ⟨rfl, hbu1⟩
        have hbu1a : Below w8.heap.size w8 (u1.alloc (.cells #[.string r1, .string r2] 37)) := hbu1.alloc hbu1.size _
        have hsu1 := hbu1.size
        have cu1 := (bl4 ((hbu1a.block _ (lt_of HRS.out.2.2.2.2)).trans HRS.out.2.2.2.2)).1.2.2.2
        have nu1 := nw_heap u1 (.cells #[.string r1, .string r2] 37)
        have HU1 : Hid _ := And.intro hbu1a nu1
        clear hbu1a nu1 hbu1
        go_wp2_with fail
        refine Calls.mono (HRS.out.2.1 _ HU1.out.1) ?_
        rintro e u2 ⟨rfl, hbu2⟩
        have hsu2 := hbu2.size
        rw [sza] at hsu2
        have hbu2a : Below w8.heap.size w8 (u2.alloc (.cells #[.string r1, .string r2] 37)) := (HU1.out.1.trans (hbu2.mono HU1.out.1.size)).alloc (by omega) _
        have hb22a : Below u2.heap.size u2 (u2.alloc (.cells #[.string r1, .string r2] 37)) := (Below.refl _ _).alloc (Nat.le_refl _) _
        have cu2 := (bl4 ((hbu2a.block _ (lt_of HRS.out.2.2.2.2)).trans HRS.out.2.2.2.2)).1.2.2.2
        have nu2 := (hbu2.block _ (lt_of HU1.out.2)).trans HU1.out.2
        have nu2a := (hb22a.block _ (lt_of nu2)).trans nu2
        have mu2a := nw_heap u2 (.cells #[.string r1, .string r2] 37)
        have HU2 : Hid _ := And.intro hbu2a (And.intro nu2a mu2a)
        clear hbu2a hb22a nu2 nu2a mu2a hbu2 HU1 cu1
        go_wp2_with fail
        refine Calls.mono (HRS.out.2.2.1 _ HU2.out.1) ?_
        rintro e u3 ⟨rfl, hbu3⟩
        have hsu3 := hbu3.size
        rw [sza] at hsu3
        have hbw3 := HU2.out.1.trans (hbu3.mono HU2.out.1.size)
        have cu3 := (bl4 ((hbw3.block _ (lt_of HRS.out.2.2.2.2)).trans HRS.out.2.2.2.2)).1.2.2.2
        have n3 := (hbu3.block _ (lt_of HU2.out.2.1)).trans HU2.out.2.1
        have m3 := (hbu3.block _ (lt_of HU2.out.2.2)).trans HU2.out.2.2
        obtain ⟨n30, n31, _, _⟩ := fresh2 n3
        obtain ⟨m30, m31, _, _⟩ := fresh2 m3
        have hp3 := HP.out.below hbw3
        obtain ⟨qv, hq3, qa, qc, hqe, _⟩ := hp3.rs.ex
        subst hqe
        have q30 : u3.cell? ⟨P + 1, 0, none⟩ = some (.slice qa (Lx).length qc) := by simp only [World.cell?, hq3]; rfl
        have hlen3 : stk'.reverse.length = (Lx).length := by have := hp3.lv.len; rw [List.length_reverse] at this ⊢; exact this
        have hdep := fun W' (hb : Below u3.heap.size u3 W') => depth_sc (hp3.below hb).ss.sc
        rw [hlen3] at hdep
        have hlt14 := lt_of n3
        have hlt16 := lt_of m3
        have hltQ := lt_of hq3
        have HU3 : Hid _ := And.intro hp3 (And.intro hbw3 (And.intro hdep (And.intro (fun W' (hb : Below u3.heap.size u3 W') => (hp3.below hb).binds (by omega)) (fun W' (hb : Below u3.heap.size u3 W') => binds_r (hp3.below hb).rs.rs (by omega)))))
        clear hp3 hbw3 n3 m3 hq3 hdep HU2 hbu3 cu2 hlen3
        go_wp2_with fail
        refine Calls.mono (HRS.out.2.2.2.1 _ HU3.out.2.1) ?_
        rintro e u4 ⟨rfl, hww⟩
        subst hww
        have HB0 : Hid (Below u4.heap.size u4 (u4.drewN 1)) := Below.drewN' 1
        have HCC : Hid ((u4.cell? ⟨u1.heap.size, 0, none⟩ = some (.string r1) ∧ u4.cell? ⟨u1.heap.size, 1, none⟩ = some (.string r2)) ∧ (u4.cell? ⟨u2.heap.size, 0, none⟩ = some (.string r1) ∧ u4.cell? ⟨u2.heap.size, 1, none⟩ = some (.string r2)) ∧ u4.cell? ⟨P + 1, 0, none⟩ = some (.slice qa (Lx).length qc)) := ⟨⟨n30, n31⟩, ⟨m30, m31⟩, q30⟩
        have hkeep : ∀ W', Below u4.heap.size u4 W' → ((W'.cell? ⟨u1.heap.size, 0, none⟩ = some (.string r1) ∧ W'.cell? ⟨u1.heap.size, 1, none⟩ = some (.string r2)) ∧ (W'.cell? ⟨u2.heap.size, 0, none⟩ = some (.string r1) ∧ W'.cell? ⟨u2.heap.size, 1, none⟩ = some (.string r2)) ∧ W'.cell? ⟨P + 1, 0, none⟩ = some (.slice qa (Lx).length qc)) := fun W' hb => ⟨⟨(hb.cell (p := ⟨u1.heap.size, 0, none⟩) hlt14).trans HCC.out.1.1, (hb.cell (p := ⟨u1.heap.size, 1, none⟩) hlt14).trans HCC.out.1.2⟩, ⟨(hb.cell (p := ⟨u2.heap.size, 0, none⟩) hlt16).trans HCC.out.2.1.1, (hb.cell (p := ⟨u2.heap.size, 1, none⟩) hlt16).trans HCC.out.2.1.2⟩, (hb.cell (p := ⟨P + 1, 0, none⟩) hltQ).trans HCC.out.2.2⟩
        have HKE : Hid _ := hkeep
        clear hkeep HRS c3 cu3 e0 e1 e2 e3
        go_wp2_with fail
        go_region_held3 (fun W => W.cell? ⟨u1.heap.size, 0, none⟩ = some (.string r1) ∧ W.cell? ⟨u1.heap.size, 1, none⟩ = some (.string r2) ∧ W.cell? ⟨u2.heap.size, 0, none⟩ = some (.string r1) ∧ W.cell? ⟨u2.heap.size, 1, none⟩ = some (.string r2) ∧ W.cell? ⟨P + 1, 0, none⟩ = some (.slice qa (Lx).length qc)) (go_keep) (first
          | (go_at_call 20; refine Calls.mono (HU3.out.2.2.1 _ HB0.out) ?_; rintro e w' ⟨rfl, rfl⟩)
          | (go_at_call 22; refine Calls.mono (HU3.out.2.2.2.1 _ (by first | exact HB23.out | exact HB0.out)) ?_; rintro e w22 ⟨x22, rfl, hr22, hb22⟩; have hbb : Below u4.heap.size u4 w22 := Below.trans (by first | exact HB23.out | exact HB0.out) (hb22.mono (Below.size (by first | exact HB23.out | exact HB0.out))); obtain ⟨⟨g1, g2⟩, ⟨g3, g4⟩, g5⟩ := HKE.out _ hbb; have HB22 : Hid _ := hbb; have H22 : Hid _ := And.intro hr22 hb22; clear hbb hr22 hb22)
          | (go_at_call 23; refine Calls.mono (HU3.out.2.2.2.2 _ (by first | exact HB22.out | exact HB0.out)) ?_; rintro e w23 ⟨x23, rfl, hr23, hb23⟩; have hbb : Below u4.heap.size u4 w23 := Below.trans (by first | exact HB22.out | exact HB0.out) (hb23.mono (Below.size (by first | exact HB22.out | exact HB0.out))); obtain ⟨⟨g1, g2⟩, ⟨g3, g4⟩, g5⟩ := HKE.out _ hbb; have HB23 : Hid _ := hbb; have H23 : Hid _ := And.intro hr23 hb23; clear hbb hr23 hb23)
          | (go_at_call 21; (first | refine Calls.mono (binds_eq (RowB.below H22.out.1 H23.out.2) H23.out.1) ?_ | refine Calls.mono (binds_eq H22.out.1 (RowB.below H23.out.1 H22.out.2)) ?_); rintro e w21 ⟨rfl, hb21⟩; have hbb : Below u4.heap.size u4 w21 := Below.trans (by first | exact HB23.out | exact HB22.out) (hb21.mono (Below.size (by first | exact HB23.out | exact HB22.out))); obtain ⟨⟨g1, g2⟩, ⟨g3, g4⟩, g5⟩ := HKE.out _ hbb; have HB21 : Hid _ := hbb; clear hbb hb21)
          | (go_at_call 24; refine Calls.mono (xsi_p r1 r2 _) ?_; rintro e w24 ⟨rfl, hb24⟩; have hbb : Below u4.heap.size u4 w24 := Below.trans (by first | exact HB25.out | exact HB21.out) (hb24.mono (Below.size (by first | exact HB25.out | exact HB21.out))); obtain ⟨⟨g1, g2⟩, ⟨g3, g4⟩, g5⟩ := HKE.out _ hbb; have HB24 : Hid _ := hbb; clear hbb hb24)
          | (go_at_call 25; refine Calls.mono (xsi_r r1 r2 _) ?_; rintro e w25 ⟨rfl, hb25⟩; have hbb : Below u4.heap.size u4 w25 := Below.trans (by first | exact HB24.out | exact HB21.out) (hb25.mono (Below.size (by first | exact HB24.out | exact HB21.out))); obtain ⟨⟨g1, g2⟩, ⟨g3, g4⟩, g5⟩ := HKE.out _ hbb; have HB25 : Hid _ := hbb; clear hbb hb25))
        all_goals
          go_wp2_with fail
          go_roundg m
          case measure => omega
          case rel => exact ⟨i + 1, _, _, _, _, _, rfl, by omega, HU3.out.1.below (by first | exact HB25.out | exact HB24.out), hlx, hLx, hLx2⟩
    · obtain rfl : i = l0.length := by omega
      have HB : Hid _ := hpi.bel
      clear hpi
      go_wp2_with fail
      go_ret
      exact ⟨rfl, HB.out⟩
end Go.Proofs.Ytgidbmiahckleaa
