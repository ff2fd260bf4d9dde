/- The reader: a pattern. -/
import Derived.Test.YthlkbijpphdblaaB8
namespace Go.Proofs.Ythlkbijpphdblaa
open Go.RowKit
set_option linter.unusedVariables false

theorem pcs_ge {at' : Nat → R Nd} {l : Bs} (hpr : ∀ k x k', at' k = .ok x k' → k < k') : ∀ (f : Nat) (acc : List Nd) (k : Nat) (x : Nd) (k' : Nat), pcsS at' l f acc k = .ok x k' → k ≤ k'
  | 0, acc, k, x, k', h => by cases h
  | f + 1, acc, k, x, k', h => by
    cases hg : goS l k with
    | bad p e => rw [pcs_bad hg] at h; cases h
    | ok b k1 =>
      cases b with
      | false => rw [pcs_end hg] at h; injection h with _ h2; omega
      | true =>
        rw [pcs_on hg] at h
        cases hp : pieS at' l k with
        | bad p e => rw [hp] at h; cases h
        | ok y k2 =>
          have := pie_lt hpr hp
          rw [hp, R.bind_ok] at h
          have := pcs_ge hpr f _ _ _ _ h
          omega
theorem als_end {at' : Nat → R Nd} {l : Bs} {f : Nat} {acc : List Nd} {k : Nat} (h : skB l 124 k = false) : alsS at' l (f + 1) acc k = .ok (mkAlt acc) k := by
  show (if skB l 124 k = true then _ else _) = _
  rw [h, if_neg (by decide)]
theorem als_on {at' : Nat → R Nd} {l : Bs} {f : Nat} {acc : List Nd} {k : Nat} (h : skB l 124 k = true) : alsS at' l (f + 1) acc k = (rowS at' l (k + 1)).bind fun x k' => alsS at' l f (acc ++ [x]) k' := by
  show (if skB l 124 k = true then _ else _) = _
  rw [h, if_pos rfl]
theorem als_ge {at' : Nat → R Nd} {l : Bs} (hpr : ∀ k x k', at' k = .ok x k' → k < k') : ∀ (f : Nat) (acc : List Nd) (k : Nat) (x : Nd) (k' : Nat), alsS at' l f acc k = .ok x k' → k ≤ k'
  | 0, acc, k, x, k', h => by cases h
  | f + 1, acc, k, x, k', h => by
    cases hs : skB l 124 k with
    | false => rw [als_end hs] at h; injection h with _ h2; omega
    | true =>
      rw [als_on hs] at h
      cases hr : rowS at' l (k + 1) with
      | bad p e => rw [hr] at h; cases h
      | ok y k2 =>
        have := pcs_ge hpr _ _ _ _ _ hr
        rw [hr, R.bind_ok] at h
        have := als_ge hpr f _ _ _ _ h
        omega
theorem pat_ge {at' : Nat → R Nd} {l : Bs} {k k' : Nat} {x : Nd} (hpr : ∀ k x k', at' k = .ok x k' → k < k') (h : patS at' l k = .ok x k') : k ≤ k' := by
  unfold patS at h
  cases hr : rowS at' l k with
  | bad p e => rw [hr] at h; cases h
  | ok y k2 =>
    have := pcs_ge hpr _ _ _ _ _ hr
    rw [hr, R.bind_ok] at h
    have := als_ge hpr _ _ _ _ _ h
    omega
def PatR (P : Nat) (w : World) (vb : Value) (l : Bs) (o : Nat) (at' : Nat → R Nd) (X : R Nd) (g : Nat) (v3 : Value) (wr : World) : Prop := ∃ ns css j, ns ≠ [] ∧ l.length + 1 ≤ j + g ∧ alsS at' l g ns j = X ∧ RwR P w vb l o v3 wr ns css j
/-- One node, laid as a row. -/
theorem rw_one {P : Nat} {w W1 : World} {vb : Value} {l : Bs} {o j : Nat} {x : Nd} {c0 c1 c2 c3 c4 : Value} (hn : NdV (fun g => w.heap.size < g ∧ g < W1.heap.size) W1 x [c0, c1, c2, c3, c4]) (hi : In P W1 vb l j o) (hf : Fro (fun j => j = P) w W1) (hx : W1.heap[w.heap.size]? = some (.cells zN 27 (0, 0))) : RwR P w vb l o (.slice (some ⟨W1.heap.size, 0, none⟩) 1 1) (W1.alloc (.cells #[c0, c1, c2, c3, c4] 27)) [x] [[c0, c1, c2, c3, c4]] j := by
  have hb : Below W1.heap.size W1 (W1.alloc (.cells #[c0, c1, c2, c3, c4] 27)) := (Below.refl _ _).alloc (Nat.le_refl _) _
  have hz := sza W1 (.cells #[c0, c1, c2, c3, c4] 27)
  have hlt := lt_of hx
  refine ⟨⟨rfl, .inr ⟨W1.heap.size, 1, _, rfl, by omega, nw_heap W1 _, Nat.le_refl _, by decide, rfl, rfl⟩⟩, ⟨rfl, fun i hi => ?_⟩, hi.below hb, hf.trans (Fro.below hb), (hb.block _ hlt).trans hx, by simp⟩
  have : i = 0 := by simpa using hi
  subst this
  exact hn.fro (fun g hg => ⟨hg.1, by rw [hz]; omega, fun e => by
    have e' : W1.heap.size = g := by simpa [Value.ownBlock] using e
    omega⟩) (by omega) (fun g _ hgs => hb.block g hgs)
set_option maxRecDepth 4000 in
set_option maxHeartbeats 8000000 in
theorem pattern_p {P k o : Nat} {w : World} {vb : Value} {l : Bs} {at' : Nat → R Nd} (ha : AtC P vb l o at') (hpr : ∀ k x k', at' k = .ok x k' → k < k') (h : In P w vb l k o) : Calls Try.prog 36 #[pp P] w fun e w' => MvN P w vb l o (patS at' l k) e w' := by
  obtain ⟨i27, z27, hi27, hz0, hzc, hz1, hz3⟩ := info_ndp
  obtain ⟨X, hX⟩ : ∃ X, patS at' l k = X := ⟨_, rfl⟩
  rw [hX]
  unfold patS at hX
  have hPw := lt_of h.ps
  have hll := h.ll
  have x0 := nw_heap w (.cells zN 27)
  have b0 : Below w.heap.size w (w.alloc (.cells zN 27)) := (Below.refl _ _).alloc (Nat.le_refl _) _
  have z0 := sza w (.cells zN 27)
  have HA : Hid _ := And.intro ha hpr
  have q := row_p ha hpr (h.below b0)
  cases hr : rowS at' l k with
  | bad p er =>
    rw [hr] at q hX
    have HQ : Hid _ := And.intro q (And.intro hX b0)
    clear q h hX hr x0 b0 z0 ha hpr
    go_enter Try.func36, Try.ntmps36
    go_wp2_with fail
    refine Calls.mono HQ.out.1 ?_
    rintro e w1 ⟨rfl, hf1⟩
    exact ⟨rfl, mn_bad HQ.out.2.1 ((Fro.below HQ.out.2.2).trans' hf1 (fun i _ q => q))⟩
  | ok x k1 =>
    rw [hr] at q hX
    rw [R.bind_ok] at hX
    have HQ : Hid _ := And.intro q (And.intro hX (And.intro b0 (And.intro x0 z0)))
    clear q h hX hr x0 b0 z0 ha hpr
    go_enter Try.func36, Try.ntmps36
    go_wp2_with fail
    refine Calls.mono HQ.out.1 ?_
    rintro e w1 ⟨q0, s0, s1, s2, q2, q3, t0, t1, t2, rfl, hn1, hi1, hf1⟩
    have hff : Fro (fun j => j = P) w w1 := (Fro.below HQ.out.2.2.1).trans' hf1 (fun i _ q => q)
    have hx1 : w1.heap[w.heap.size]? = some (.cells zN 27 (0, 0)) := hf1.at HQ.out.2.2.2.1 (by omega)
    have hn2 : NdV (fun g => w.heap.size < g ∧ g < w1.heap.size) w1 x [.int .i64 q0, .slice s0 s1 s2, .int .i64 q2, .int .i64 q3, .slice t0 t1 t2] := hn1.fro (fun g hg => ⟨by have := hg.1; rw [HQ.out.2.2.2.2] at this; omega, hg.2⟩) (Nat.le_refl _) (fun _ _ _ => rfl)
    have hRo := rw_one hn2 hi1 hff hx1
    have hkl1 := hi1.kl
    have H1 : Hid _ := And.intro hRo HQ.out.2.1
    clear hn1 hi1 hf1 hff hx1 hn2 hRo HQ
    go_wp2_with fail
    go_loopg [3] (l.length + 1) (fun g v3 wr => PatR P w vb l o at' X g v3 wr)
    case atStart => exact ⟨[x], _, k1, by simp, by omega, H1.out.2, H1.out.1⟩
    case round =>
      obtain ⟨ns, css, j, hne, hjg, hX, hR⟩ := hrel
      have hjl := hR.inn.kl
      have hnl := hR.len
      obtain ⟨g, rfl⟩ : ∃ g, gk = g + 1 := ⟨gk - 1, by omega⟩
      obtain ⟨va, vc, rfl⟩ := row_form hR.row
      clear H1
      have qs := skip_p 124 hR.inn (by omega)
      cases hs : skB l 124 j with
      | true =>
        rw [hs] at qs
        rw [als_on hs] at hX
        have H1 : Hid _ := And.intro qs (And.intro hX hR)
        clear qs hX hR hs
        go_wp2_with fail
        refine Calls.mono H1.out.1 ?_
        rintro e w1' ⟨rfl, hi1, hf1⟩
        rw [if_pos rfl] at hi1
        have hR1 := H1.out.2.2.fro' hPw hf1 hi1 (by omega)
        have hX := H1.out.2.1
        have qp := row_p HA.out.1 HA.out.2 hR1.inn
        clear hf1 hi1 H1
        cases hp : rowS at' l (j + 1) with
        | bad p er =>
          rw [hp] at qp hX
          have H2 : Hid _ := And.intro qp (And.intro hX hR1)
          clear qp hX hR1 hp
          go_wp2_with fail
          refine Calls.mono H2.out.1 ?_
          rintro e w2 ⟨rfl, hf2⟩
          exact ⟨rfl, mn_bad H2.out.2.1 (H2.out.2.2.fro.trans hf2)⟩
        | ok y j2 =>
          have hlt := pcs_ge HA.out.2 _ _ _ _ _ hp
          rw [hp] at qp hX
          rw [R.bind_ok] at hX
          have H2 : Hid _ := And.intro qp (And.intro hX hR1)
          clear qp hX hR1 hp
          go_wp2_with fail
          refine Calls.mono H2.out.1 ?_
          rintro e w2 ⟨q0', s0', s1', s2', q2', q3', t0', t1', t2', rfl, hn2, hi2, hf2⟩
          have hR2 := H2.out.2.2.fro' hPw hf2 hi2 (by omega)
          have hone := nd_one hn2
          have hvb : ∀ k, (Value.slice va ns.length vc).ownBlock = some k → k < w1'.heap.size := fun k hk => (row_base H2.out.2.2.row k hk).2
          have hww : w.heap.size < w1'.heap.size := lt_of H2.out.2.2.own
          have H3 : Hid _ := And.intro hR2 (And.intro hn2 (And.intro hf2.size (And.intro hvb (And.intro hww H2.out.2.1))))
          clear hR2 hn2 hi2 hf2 hvb hww H2
          go_wp2_with (first | (at_builtin; go_loud (refine wpList_putN w2 i27 z27 hi27 hz0 hzc hz1 hz3 (.tmp 9) (.tmp 12) rfl rfl (w.heap.size + 1) (.slice va ns.length vc) ns.length css.flatten rfl H3.out.1.row (.int .i64 q0') (.slice s0' s1' s2') (.int .i64 q2') (.int .i64 q3') (.slice t0' t1' t2') hone rfl (by omega) (lt_of H3.out.1.own) ?_); intro g6 cap6 w6 hr6 hf6 hg6 hbg6 hgs6; have H6 : Hid _ := RwR.snoc H3.out.1 hPw H3.out.2.2.1 H3.out.2.2.2.1 H3.out.2.2.2.2.1 H3.out.2.1 hr6 hf6 hg6 hgs6 (by omega); clear hr6 hf6 hg6 hbg6 hgs6))
          go_roundg g
          case measure => omega
          case rel => exact ⟨ns ++ [y], _, j2, by simp, by omega, H3.out.2.2.2.2.2, H6.out⟩
      | false =>
        rw [hs] at qs
        rw [als_end hs] at hX
        have H1 : Hid _ := And.intro qs (And.intro hX hR)
        clear qs hX hR hs
        go_wp2_with fail
        refine Calls.mono H1.out.1 ?_
        rintro e w1' ⟨rfl, hi1, hf1⟩
        rw [if_neg (by decide)] at hi1
        have hR1 := H1.out.2.2.fro' hPw hf1 hi1 hnl
        have hX := H1.out.2.1
        clear hf1 hi1 H1
        obtain ⟨⟨r0, r1, r2, r3, r4⟩, f0, f1, f2, f3, f4⟩ := cells5 hR1.own
        match ns, hne, hnl, hX, hR1 with
        | [y], hne, hnl, hX, hR1 =>
          obtain ⟨g3, cap3, hv3, hb3, hg3, hc3⟩ := row_some hR1.row (by simp)
          simp only [Value.slice.injEq] at hv3
          obtain ⟨rfl, hlen, rfl⟩ := hv3
          have hx := hR1.nds.nd 0 (by simp)
          obtain ⟨q0', s0', s1', s2', q2', q3', t0', t1', t2', hcs⟩ := nd_form hx
          have hcell := fun (r : Nat) (u : Value) => row_cells hR1.nds hR1.row 0 r u
          rw [hcs] at hcell hx
          have d0 := hcell 0 _ rfl
          have d1 := hcell 1 _ rfl
          have d2 := hcell 2 _ rfl
          have d3 := hcell 3 _ rfl
          have d4 := hcell 4 _ rfl
          simp only [Nat.zero_mul, Nat.zero_add, Nat.add_zero] at d0 d1 d2 d3 d4
          have H2 : Hid _ := And.intro hX (And.intro hR1 hx)
          clear hX hR1 hx hcell hcs hlen
          go_wp2_with fail
          have va5 := put5_at H2.out.2.1.own (.int .i64 q0') (.slice s0' s1' s2') (.int .i64 q2') (.int .i64 q3') (.slice t0' t1' t2')
          obtain ⟨⟨k0, k1', k2, k3', k4⟩, _⟩ := cells5 va5
          refine bodyPost_ret (v := .agg #[.int .i64 q0', .slice s0' s1' s2', .int .i64 q2', .int .i64 q3', .slice t0' t1' t2']) (by simp [results, Try.results36, go_sem, k0, k1', k2, k3', k4]) rfl (mn_ok H2.out.1 (nd_fin H2.out.2.2 (fun g hg => ⟨hg.1, hg.2.1⟩) _ _ _ _ _) (in_put5 H2.out.2.1.inn hPw _ _ _ _ _) (put5_fro H2.out.2.1.fro (.inr (Nat.le_refl _)) _ _ _ _ _))
        | y :: z :: ns', hne, hnl, hX, hR1 =>
          obtain ⟨N, hN⟩ : ∃ N, (y :: z :: ns').length = N := ⟨_, rfl⟩
          have hN2 : 2 ≤ N := by rw [← hN]; simp
          obtain ⟨g3, cap3, hv3, hb3, hg3, hc3⟩ := row_some hR1.row (by omega)
          simp only [Value.slice.injEq] at hv3
          obtain ⟨rfl, hlen, rfl⟩ := hv3
          have hnd := hR1.kids 4 0 0 rfl hc3 hb3 hg3
          rw [hN] at hnd hnl ⊢
          have H2 : Hid _ := And.intro hX (And.intro hR1 hnd)
          have n1 : ((N : Int) == 1) = false := by simp; omega
          clear hX hR1 hnd hN hlen hc3
          go_wp2_with fail
          have va5 := put5_at H2.out.2.1.own (.int .i64 4) (.slice none 0 0) (.int .i64 0) (.int .i64 0) (.slice (some ⟨g3, 0, none⟩) N vc)
          obtain ⟨⟨k0, k1', k2, k3', k4⟩, _⟩ := cells5 va5
          refine bodyPost_ret (v := .agg #[.int .i64 4, .slice none 0 0, .int .i64 0, .int .i64 0, .slice (some ⟨g3, 0, none⟩) N vc]) (by simp [results, Try.results36, go_sem, k0, k1', k2, k3', k4]) rfl (mn_ok H2.out.1 (nd_fin H2.out.2.2 (fun g hg => hg) _ _ _ _ _) (in_put5 H2.out.2.1.inn hPw _ _ _ _ _) (put5_fro H2.out.2.1.fro (.inr (Nat.le_refl _)) _ _ _ _ _))
end Go.Proofs.Ythlkbijpphdblaa
