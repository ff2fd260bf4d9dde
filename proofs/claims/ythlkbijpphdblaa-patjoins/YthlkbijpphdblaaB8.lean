/- The reader: a row of pieces. -/
import Derived.Test.YthlkbijpphdblaaB7
namespace Go.Proofs.Ythlkbijpphdblaa
open Go.RowKit
set_option linter.unusedVariables false

theorem nd_form {O : Nat → Prop} {w : World} {n : Nd} {cs : List Value} (h : NdV O w n cs) : ∃ (q0 : Int) (s0 : Option Addr) (s1 s2 : Nat) (q2 q3 : Int) (t0 : Option Addr) (t1 t2 : Nat), cs = [.int .i64 q0, .slice s0 s1 s2, .int .i64 q2, .int .i64 q3, .slice t0 t1 t2] := by
  cases h with
  | mk k a b s ks vs ad cap css hs hl hc hk hn =>
    obtain ⟨sa, sc, rfl, _⟩ := hs
    exact ⟨_, _, _, _, _, _, _, _, _, rfl⟩
theorem row_some {w : World} {base n : Nat} {v : Value} {xs : List Value} (h : w.ownsRow base 27 5 v n xs) (hn : 0 < n) : ∃ g cap, v = .slice (some ⟨g, 0, none⟩) n cap ∧ base ≤ g ∧ g < w.heap.size ∧ n ≤ cap := by
  rcases h.2 with ⟨rfl, h0⟩ | ⟨g, cap, cur, rfl, h3, h4, h5, _⟩
  · omega
  · exact ⟨g, cap, rfl, h3, lt_of h4, h5⟩
/-- Where nodes of a row that grows may lie. -/
abbrev Rw (w wr : World) (v : Value) : Nat → Prop := fun g => w.heap.size < g ∧ g < wr.heap.size ∧ v.ownBlock ≠ some g
structure RwR (P : Nat) (w : World) (vb : Value) (l : Bs) (o : Nat) (v : Value) (wr : World) (ns : List Nd) (css : List (List Value)) (j : Nat) : Prop where
  row : wr.ownsRow (w.heap.size + 1) 27 5 v ns.length css.flatten
  nds : NdsV (Rw w wr v) wr ns css
  inn : In P wr vb l j o
  fro : Fro (fun j => j = P) w wr
  own : wr.heap[w.heap.size]? = some (.cells zN 27 (0, 0))
  len : ns.length ≤ j + 1
/-- What another reader leaves of it. -/
theorem RwR.fro' {P : Nat} {w wr w' : World} {vb : Value} {l : Bs} {o o' : Nat} {v : Value} {ns : List Nd} {css : List (List Value)} {j j' : Nat} (h : RwR P w vb l o v wr ns css j) (hPw : P < w.heap.size) (hf : Fro (fun j => j = P) wr w') (hi : In P w' vb l j' o') (hj : ns.length ≤ j' + 1) : RwR P w vb l o' v w' ns css j' :=
  ⟨row_fro h.row hf (fun k hk q => by have := (row_base h.row k hk).1; omega), h.nds.fro (fun g hg => ⟨hg.1, by have := hf.size; have := hg.2.1; omega, hg.2.2⟩) hf.size (fun g hg hgs => hf.block g hgs (by have := hg.1; omega)), hi, h.fro.trans hf, hf.at h.own (by omega), hj⟩
/-- A node more. -/
theorem RwR.snoc {P : Nat} {w wr W w' : World} {vb : Value} {l : Bs} {o : Nat} {v : Value} {ns : List Nd} {css : List (List Value)} {j g cap : Nat} {x : Nd} {cs : List Value} (h : RwR P w vb l o v W ns css j) (hPw : P < w.heap.size) (hz : wr.heap.size ≤ W.heap.size) (hvb : ∀ k, v.ownBlock = some k → k < wr.heap.size) (hwr : w.heap.size < wr.heap.size) (hn : NdV (Nw wr W) W x cs)
    (hr : w'.ownsRow (w.heap.size + 1) 27 5 (.slice (some ⟨g, 0, none⟩) (ns.length + 1) cap) (ns.length + 1) (css.flatten ++ cs)) (hf : Fro (fun j => v.ownBlock = some j) W w') (hg : v.ownBlock = some g ∨ W.heap.size ≤ g) (hgs : g < w'.heap.size) (hj : ns.length + 1 ≤ j + 1) : RwR P w vb l o (.slice (some ⟨g, 0, none⟩) (ns.length + 1) cap) w' (ns ++ [x]) (css ++ [cs]) j := by
  have hvW : ∀ k, v.ownBlock = some k → w.heap.size + 1 ≤ k := fun k hk => (row_base h.row k hk).1
  have hb : Below (w.heap.size + 1) W w' := hf.toBelow (lt_of h.own) (fun i hi q => by have := hvW i q; omega)
  have hO1 : ∀ q, Rw w W v q → Rw w w' (.slice (some ⟨g, 0, none⟩) (ns.length + 1) cap) q := fun q hq => ⟨hq.1, by have := hf.size; have := hq.2.1; omega, fun e => by
    have e' : g = q := by simpa [Value.ownBlock] using e
    subst e'
    rcases hg with c | c
    · exact hq.2.2 c
    · have := hq.2.1; omega⟩
  have hO2 : ∀ q, Nw wr W q → Rw w W v q := fun q hq => ⟨by have := hq.1; omega, hq.2, fun e => by have := hvb q e; have := hq.1; omega⟩
  refine ⟨?_, ?_, h.inn.belowb hb (by omega), fro_base h.fro (hb.mono (by omega)), (hb.block _ (by omega)).trans h.own, by simp; omega⟩
  · rw [List.length_append, List.flatten_append]
    simpa using hr
  · exact NdsV.snoc (h.nds.fro hO1 hf.size (fun q hq hqs => hf.block q hqs (fun e => hq.2.2 e))) (hn.fro (fun q hq => hO1 q (hO2 q hq)) hf.size (fun q hq hqs => hf.block q hqs (fun e => (hO2 q hq).2.2 e)))
/-- The row's nodes as another node's kids. -/
theorem RwR.kids {P : Nat} {w wr : World} {vb : Value} {l : Bs} {o : Nat} {ns : List Nd} {css : List (List Value)} {j g n cap : Nat} (h : RwR P w vb l o (.slice (some ⟨g, 0, none⟩) n cap) wr ns css j) (k a b : Int) (hn : n = ns.length) (hc : n ≤ cap) (hg : w.heap.size + 1 ≤ g) (hgs : g < wr.heap.size) : NdV (fun q => w.heap.size < q ∧ q < wr.heap.size) wr (.nd k [] a b ns) [.int .i64 k, .slice none 0 0, .int .i64 a, .int .i64 b, .slice (some ⟨g, 0, none⟩) n cap] := by
  subst hn
  exact nd_kids k a b (h.nds.fro (fun q hq => ⟨hq.1, hq.2.1⟩) (Nat.le_refl _) (fun _ _ _ => rfl)) ⟨by omega, hgs⟩ hgs (by
    rcases h.row.2 with ⟨e, _⟩ | ⟨g', cap', cur, e, _, hh, _⟩
    · simp at e
    · simp only [Value.slice.injEq, Option.some.injEq, Addr.mk.injEq, and_true] at e
      obtain ⟨rfl, _⟩ := e
      exact ⟨cur, hh⟩) hc (row_cells h.nds h.row)
theorem pcs_bad {at' : Nat → R Nd} {l : Bs} {f : Nat} {acc : List Nd} {k : Nat} {p er : Int} (h : goS l k = .bad p er) : pcsS at' l (f + 1) acc k = .bad p er := by
  show (goS l k).bind _ = _
  rw [h]; rfl
theorem pcs_end {at' : Nat → R Nd} {l : Bs} {f : Nat} {acc : List Nd} {k k' : Nat} (h : goS l k = .ok false k') : pcsS at' l (f + 1) acc k = .ok (mkRow acc) k := by
  show (goS l k).bind _ = _
  rw [h, R.bind_ok, if_neg (by decide)]
theorem pcs_on {at' : Nat → R Nd} {l : Bs} {f : Nat} {acc : List Nd} {k k' : Nat} (h : goS l k = .ok true k') : pcsS at' l (f + 1) acc k = (pieS at' l k).bind fun x k' => pcsS at' l f (acc ++ [x]) k' := by
  show (goS l k).bind _ = _
  rw [h, R.bind_ok, if_pos rfl]
theorem pie_lt {at' : Nat → R Nd} {l : Bs} {k k' : Nat} {x : Nd} (hpr : ∀ k x k', at' k = .ok x k' → k < k') (h : pieS at' l k = .ok x k') : k < k' := by
  unfold pieS at h
  cases ha : at' k with
  | bad p e => rw [ha] at h; cases h
  | ok y k1 =>
    have := hpr _ _ _ ha
    rw [ha, R.bind_ok] at h
    cases ht : timS l k1 with
    | bad p e => rw [ht] at h; cases h
    | ok p k2 =>
      have := tim_ge ht
      rw [ht, R.bind_ok] at h
      injection h with _ h2
      omega
def RowR (P : Nat) (w : World) (vb : Value) (l : Bs) (o : Nat) (at' : Nat → R Nd) (X : R Nd) (g : Nat) (v3 : Value) (wr : World) : Prop := ∃ ns css j, l.length + 1 ≤ j + g ∧ pcsS at' l g ns j = X ∧ RwR P w vb l o v3 wr ns css j
set_option maxRecDepth 4000 in
set_option maxHeartbeats 8000000 in
theorem row_p {P k o : Nat} {w : World} {vb : Value} {l : Bs} {at' : Nat → R Nd} (ha : AtC P vb l o at') (hpr : ∀ k x k', at' k = .ok x k' → k < k') (h : In P w vb l k o) : Calls Try.prog 46 #[pp P] w fun e w' => MvN P w vb l o (rowS at' l k) e w' := by
  obtain ⟨i27, z27, hi27, hz0, hzc, hz1, hz3⟩ := info_ndp
  obtain ⟨X, hX⟩ : ∃ X, rowS at' l k = X := ⟨_, rfl⟩
  rw [hX]
  unfold rowS at hX
  have hPw := lt_of h.ps
  have hll := h.ll
  have x0 := nw_heap w (.cells zN 27)
  have b0 : Below w.heap.size w (w.alloc (.cells zN 27)) := (Below.refl _ _).alloc (Nat.le_refl _) _
  have HA : Hid _ := And.intro ha hpr
  have H0 : Hid _ := And.intro h (And.intro x0 (And.intro b0 hX))
  clear h x0 b0 hX ha hpr
  go_enter Try.func46, Try.ntmps46
  go_wp2_with fail
  go_loopg [3] (l.length + 1) (fun g v3 wr => RowR P w vb l o at' X g v3 wr)
  case atStart => exact ⟨[], [], k, by omega, H0.out.2.2.2, ⟨rfl, .inl ⟨rfl, rfl⟩⟩, NdsV.nil _ _, H0.out.1.below H0.out.2.2.1, Fro.below H0.out.2.2.1, H0.out.2.1, by simp⟩
  case round =>
    obtain ⟨ns, css, j, hjg, hX, hR⟩ := hrel
    have hjl := hR.inn.kl
    have hnl := hR.len
    obtain ⟨g, rfl⟩ : ∃ g, gk = g + 1 := ⟨gk - 1, by omega⟩
    obtain ⟨va, vc, rfl⟩ := row_form hR.row
    clear H0
    have qg := goes_p hR.inn
    cases hg : goS l j with
    | bad p er =>
      rw [hg] at qg
      rw [pcs_bad hg] at hX
      have H1 : Hid _ := And.intro qg (And.intro hX hR)
      clear qg hX hR hg
      go_wp2_with fail
      refine Calls.mono H1.out.1 ?_
      rintro e w1 ⟨rfl, m, hw⟩
      exact ⟨rfl, mn_bad H1.out.2.1 (H1.out.2.2.fro.trans (fro_of hw))⟩
    | ok b j' =>
      rw [hg] at qg
      cases b with
      | true =>
        rw [pcs_on hg] at hX
        have H1 : Hid _ := And.intro qg (And.intro hX hR)
        clear qg hX hR hg
        go_wp2_with fail
        refine Calls.mono H1.out.1 ?_
        rintro e w1 ⟨rfl, m, hw⟩
        have hR1 := H1.out.2.2.fro' hPw (fro_of hw) (H1.out.2.2.inn.dr hw) hnl
        have hX := H1.out.2.1
        have qp := piece_p HA.out.1 hR1.inn
        clear hw H1
        cases hp : pieS at' l j with
        | bad p er =>
          rw [hp] at qp hX
          have H2 : Hid _ := And.intro qp (And.intro hX hR1)
          clear qp hX hR1 hp
          go_wp2_with fail
          refine Calls.mono H2.out.1 ?_
          rintro e w2 ⟨rfl, hf2⟩
          exact ⟨rfl, mn_bad H2.out.2.1 (H2.out.2.2.fro.trans hf2)⟩
        | ok x j2 =>
          have hlt := pie_lt HA.out.2 hp
          rw [hp] at qp hX
          rw [R.bind_ok] at hX
          have H2 : Hid _ := And.intro qp (And.intro hX hR1)
          clear qp hX hR1 hp
          go_wp2_with fail
          refine Calls.mono H2.out.1 ?_
          rintro e w2 ⟨q0, s0, s1, s2, q2, q3, t0, t1, t2, rfl, hn2, hi2, hf2⟩
          have hR2 := H2.out.2.2.fro' hPw hf2 hi2 (by omega)
          have hone := nd_one hn2
          have hvb : ∀ k, (Value.slice va ns.length vc).ownBlock = some k → k < w1.heap.size := fun k hk => (row_base H2.out.2.2.row k hk).2
          have hww : w.heap.size < w1.heap.size := lt_of H2.out.2.2.own
          have H3 : Hid _ := And.intro hR2 (And.intro hn2 (And.intro hf2.size (And.intro hvb (And.intro hww H2.out.2.1))))
          clear hR2 hn2 hi2 hf2 hvb hww H2
          go_wp2_with (first | (at_builtin; go_loud (refine wpList_putN w2 i27 z27 hi27 hz0 hzc hz1 hz3 (.tmp 6) (.tmp 9) rfl rfl (w.heap.size + 1) (.slice va ns.length vc) ns.length css.flatten rfl H3.out.1.row (.int .i64 q0) (.slice s0 s1 s2) (.int .i64 q2) (.int .i64 q3) (.slice t0 t1 t2) hone rfl (by omega) (lt_of H3.out.1.own) ?_); intro g6 cap6 w6 hr6 hf6 hg6 hbg6 hgs6; have H6 : Hid _ := RwR.snoc H3.out.1 hPw H3.out.2.2.1 H3.out.2.2.2.1 H3.out.2.2.2.2.1 H3.out.2.1 hr6 hf6 hg6 hgs6 (by omega); clear hr6 hf6 hg6 hbg6 hgs6))
          go_roundg g
          case measure => omega
          case rel => exact ⟨ns ++ [x], _, j2, by omega, H3.out.2.2.2.2.2, H6.out⟩
      | false =>
        rw [pcs_end hg] at hX
        have H1 : Hid _ := And.intro qg (And.intro hX hR)
        clear qg hX hR hg
        go_wp2_with fail
        refine Calls.mono H1.out.1 ?_
        rintro e w1 ⟨rfl, m, hw⟩
        have hR1 := H1.out.2.2.fro' hPw (fro_of hw) (H1.out.2.2.inn.dr hw) hnl
        have hX := H1.out.2.1
        clear hw H1
        obtain ⟨⟨r0, r1, r2, r3, r4⟩, f0, f1, f2, f3, f4⟩ := cells5 hR1.own
        match ns, hnl, hX, hR1 with
        | [], hnl, hX, hR1 =>
          have H2 : Hid _ := And.intro hX hR1
          clear hX hR1
          go_wp2_with fail
          have va5 := put5_at H2.out.2.own (.int .i64 1) (.slice none 0 0) (.int .i64 0) (.int .i64 0) (.slice none 0 0)
          obtain ⟨⟨k0, k1', k2, k3', k4⟩, _⟩ := cells5 va5
          refine bodyPost_ret (v := .agg #[.int .i64 1, .slice none 0 0, .int .i64 0, .int .i64 0, .slice none 0 0]) (by simp [results, Try.results46, go_sem, k0, k1', k2, k3', k4]) rfl (mn_ok H2.out.1 (nd_leaf 1 (slo_nil _ _)) (in_put5 H2.out.2.inn hPw _ _ _ _ _) (put5_fro H2.out.2.fro (.inr (Nat.le_refl _)) _ _ _ _ _))
        | [x], hnl, hX, hR1 =>
          obtain ⟨g3, cap3, hv3, hb3, hg3, hc3⟩ := row_some hR1.row (by simp)
          simp only [Value.slice.injEq] at hv3
          obtain ⟨rfl, hlen, rfl⟩ := hv3
          have hx := hR1.nds.nd 0 (by simp)
          obtain ⟨q0, s0, s1, s2, q2, q3, t0, t1, t2, hcs⟩ := nd_form hx
          have hcell := fun (r : Nat) (u : Value) => row_cells hR1.nds hR1.row 0 r u
          rw [hcs] at hcell hx
          have d0 := hcell 0 _ rfl
          have d1 := hcell 1 _ rfl
          have d2 := hcell 2 _ rfl
          have d3 := hcell 3 _ rfl
          have d4 := hcell 4 _ rfl
          simp only [Nat.zero_mul, Nat.zero_add, Nat.add_zero] at d0 d1 d2 d3 d4
          have H2 : Hid _ := And.intro hX (And.intro hR1 hx)
          clear hX hR1 hx hcell hcs hlen
          go_wp2_with fail
          have va5 := put5_at H2.out.2.1.own (.int .i64 q0) (.slice s0 s1 s2) (.int .i64 q2) (.int .i64 q3) (.slice t0 t1 t2)
          obtain ⟨⟨k0, k1', k2, k3', k4⟩, _⟩ := cells5 va5
          refine bodyPost_ret (v := .agg #[.int .i64 q0, .slice s0 s1 s2, .int .i64 q2, .int .i64 q3, .slice t0 t1 t2]) (by simp [results, Try.results46, go_sem, k0, k1', k2, k3', k4]) rfl (mn_ok H2.out.1 (nd_fin H2.out.2.2 (fun g hg => ⟨hg.1, hg.2.1⟩) _ _ _ _ _) (in_put5 H2.out.2.1.inn hPw _ _ _ _ _) (put5_fro H2.out.2.1.fro (.inr (Nat.le_refl _)) _ _ _ _ _))
        | x :: y :: ns', hnl, hX, hR1 =>
          obtain ⟨N, hN⟩ : ∃ N, (x :: y :: ns').length = N := ⟨_, rfl⟩
          have hN2 : 2 ≤ N := by rw [← hN]; simp
          obtain ⟨g3, cap3, hv3, hb3, hg3, hc3⟩ := row_some hR1.row (by omega)
          simp only [Value.slice.injEq] at hv3
          obtain ⟨rfl, hlen, rfl⟩ := hv3
          have hnd := hR1.kids 3 0 0 rfl hc3 hb3 hg3
          rw [hN] at hnd hnl ⊢
          have H2 : Hid _ := And.intro hX (And.intro hR1 hnd)
          have n0 : ((N : Int) == 0) = false := by simp; omega
          have n1 : ((N : Int) == 1) = false := by simp; omega
          clear hX hR1 hnd hN hlen hc3
          go_wp2_with fail
          have va5 := put5_at H2.out.2.1.own (.int .i64 3) (.slice none 0 0) (.int .i64 0) (.int .i64 0) (.slice (some ⟨g3, 0, none⟩) N vc)
          obtain ⟨⟨k0, k1', k2, k3', k4⟩, _⟩ := cells5 va5
          refine bodyPost_ret (v := .agg #[.int .i64 3, .slice none 0 0, .int .i64 0, .int .i64 0, .slice (some ⟨g3, 0, none⟩) N vc]) (by simp [results, Try.results46, go_sem, k0, k1', k2, k3', k4]) rfl (mn_ok H2.out.1 (nd_fin H2.out.2.2 (fun g hg => hg) _ _ _ _ _) (in_put5 H2.out.2.1.inn hPw _ _ _ _ _) (put5_fro H2.out.2.1.fro (.inr (Nat.le_refl _)) _ _ _ _ _))
end Go.Proofs.Ythlkbijpphdblaa
