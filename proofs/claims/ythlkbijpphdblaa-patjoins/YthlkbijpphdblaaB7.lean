/- The reader: a piece. -/
import Derived.Test.YthlkbijpphdblaaZ29
namespace Go.Proofs.Ythlkbijpphdblaa
open Go.RowKit
set_option linter.unusedVariables false

abbrev zN : Array Value := #[.int .i64 0, .slice none 0 0, .int .i64 0, .int .i64 0, .slice none 0 0]
/-- What an atom does, with so many brackets open. -/
def AtC (P : Nat) (vb : Value) (l : Bs) (o : Nat) (at' : Nat → R Nd) : Prop := ∀ (k : Nat) (w : World), In P w vb l k o → Calls Try.prog 59 #[pp P] w fun e w' => MvN P w vb l o (at' k) e w'
theorem slo_nil (O : Nat → Prop) (w : World) : SlO O w (.slice none 0 0) [] := ⟨none, 0, rfl, Nat.le_refl _, .inl rfl⟩
/-- A node with kids. -/
theorem nd_kids {O : Nat → Prop} {w : World} {ns : List Nd} {css : List (List Value)} {g cap : Nat} (k a b : Int) (h : NdsV O w ns css) (hO : O g) (hg : g < w.heap.size) (harr : ∃ arr, w.heap[g]? = some (.cells arr 27 (0, 0))) (hc : ns.length ≤ cap) (hcell : ∀ j r u, (css.getD j [])[r]? = some u → w.cell? ⟨g, 0 + j * 5 + r, none⟩ = some u) : NdV O w (.nd k [] a b ns) [.int .i64 k, .slice none 0 0, .int .i64 a, .int .i64 b, .slice (some ⟨g, 0, none⟩) ns.length cap] :=
  .mk k a b [] ns _ _ cap css (slo_nil O w) h.len hc (.inr ⟨g, 0, rfl, hO, hg, harr, hcell⟩) h.nd
theorem nd_leaf {O : Nat → Prop} {w : World} {vs : Value} {s : List Rg} (k : Int) (h : SlO O w vs s) : NdV O w (.nd k s 0 0 []) [.int .i64 k, vs, .int .i64 0, .int .i64 0, .slice none 0 0] :=
  .mk k 0 0 s [] vs none 0 [] h rfl (Nat.le_refl _) (.inl rfl) (fun j hj => by simp at hj)
/-- What is told goes into the answer's own block. -/
theorem nd_fin {w W : World} {n : Nd} {cs : List Value} {O : Nat → Prop} (hn : NdV O W n cs) (hO : ∀ g, O g → w.heap.size < g ∧ g < W.heap.size) (c0 c1 c2 c3 c4 : Value) : NdV (Nw w (put5 W w.heap.size c0 c1 c2 c3 c4)) (put5 W w.heap.size c0 c1 c2 c3 c4) n cs :=
  hn.fro (fun g hg => ⟨Nat.le_of_lt (hO g hg).1, by rw [put5_size]; exact (hO g hg).2⟩) (by rw [put5_size]; exact Nat.le_refl _) (fun g hg _ => put5_blk _ _ _ _ _ _ _ _ (by have := (hO g hg).1; omega))
theorem in_put5 {P k o : Nat} {w W : World} {vb : Value} {l : Bs} (h : In P W vb l k o) (hP : P < w.heap.size) (c0 c1 c2 c3 c4 : Value) : In P (put5 W w.heap.size c0 c1 c2 c3 c4) vb l k o := by
  have hb : Below w.heap.size W (put5 W w.heap.size c0 c1 c2 c3 c4) := (((((Below.refl w.heap.size W).setCell (p := ⟨w.heap.size, 0, none⟩) (Nat.le_refl _) _).setCell (p := ⟨w.heap.size, 1, none⟩) (Nat.le_refl _) _).setCell (p := ⟨w.heap.size, 2, none⟩) (Nat.le_refl _) _).setCell (p := ⟨w.heap.size, 3, none⟩) (Nat.le_refl _) _).setCell (p := ⟨w.heap.size, 4, none⟩) (Nat.le_refl _) _
  exact h.belowb hb hP
theorem tim_ge {l : Bs} {k k2 : Nat} {p : Int × Int × Bool} (h : timS l k = .ok p k2) : k ≤ k2 := by
  have hpk : ∀ (l : Bs) (op : Int) (f : Nat) (n : Int) (c k : Nat) (a : Int) (k2 : Nat), numS l op f n c k = .ok a k2 → k ≤ k2 := by
    intro l op f
    induction f with
    | zero => intro n c k a k2 h; cases h
    | succ f ih =>
      intro n c k a k2 h
      cases hr : pkS l k with
      | bad p e => rw [num_bad hr] at h; cases h
      | ok r k' =>
        by_cases hd : 48 ≤ r ∧ r ≤ 57
        · by_cases hb : 4 < c + 1 ∨ 1000 < 10 * n + (r - 48)
          · rw [num_big hr hd hb] at h; cases h
          · rw [num_on hr hd hb] at h
            have := ih _ _ _ _ _ h
            omega
        · rw [num_no hr hd] at h
          split at h
          · cases h
          · injection h with _ h2; omega
  have hbe : ∀ (op a b : Int) (k : Nat) (q : Int × Int) (k2 : Nat), bndE l op a b k = .ok q k2 → k ≤ k2 := by
    intro op a b k q k2 h
    unfold bndE at h
    cases hr : pkS l k with
    | bad p e => rw [hr] at h; cases h
    | ok r k' =>
      rw [hr, R.bind_ok] at h
      split at h
      · injection h with _ h2; omega
      · cases h
  unfold timS at h
  split at h
  · injection h with _ h2; omega
  split at h
  · injection h with _ h2; omega
  split at h
  · injection h with _ h2; omega
  split at h
  · cases hb : bndS l (k : Int) (k + 1) with
    | bad p e => rw [hb] at h; cases h
    | ok q k3 =>
      rw [hb, R.bind_ok] at h
      injection h with _ h2
      unfold bndS at hb
      cases hn : numS l (k : Int) 6 0 0 (k + 1) with
      | bad p e => rw [hn] at hb; cases hb
      | ok a k4 =>
        have h4 := hpk _ _ _ _ _ _ _ _ hn
        rw [hn, R.bind_ok] at hb
        split at hb
        · cases hp : pkS l (k4 + 1) with
          | bad p e => rw [hp] at hb; cases hb
          | ok r k5 =>
            rw [hp, R.bind_ok] at hb
            split at hb
            · have := hbe _ _ _ _ _ _ hb; omega
            · cases hn2 : numS l (k : Int) 6 0 0 (k4 + 1) with
              | bad p e => rw [hn2] at hb; cases hb
              | ok b k6 =>
                have h6 := hpk _ _ _ _ _ _ _ _ hn2
                rw [hn2, R.bind_ok] at hb
                have := hbe _ _ _ _ _ _ hb; omega
        · have := hbe _ _ _ _ _ _ hb; omega
  · injection h with _ h2; omega
theorem lit_cell {W : World} {t : TypeId} {cs : List Value} {r : Nat} {u : Value} (h : cs[r]? = some u) : (W.alloc (.cells cs.toArray t)).cell? ⟨W.heap.size, r, none⟩ = some u := by
  simp only [World.cell?, nw_heap]
  simpa using h
theorem j_zero {c : List Value} {j r : Nat} {u : Value} (h : ([c].getD j [])[r]? = some u) : j = 0 := by
  rcases Nat.eq_zero_or_pos j with q | q
  · exact q
  · have e : [c].getD j [] = [] := by rw [List.getD_eq_getElem?_getD, List.getElem?_eq_none (show [c].length ≤ j from q)]; rfl
    rw [e] at h
    simp at h
set_option maxRecDepth 4000 in
set_option maxHeartbeats 4000000 in
theorem piece_p {P k o : Nat} {w : World} {vb : Value} {l : Bs} {at' : Nat → R Nd} (ha : AtC P vb l o at') (h : In P w vb l k o) : Calls Try.prog 54 #[pp P] w fun e w' => MvN P w vb l o (pieS at' l k) e w' := by
  obtain ⟨X, hX⟩ : ∃ X, pieS at' l k = X := ⟨_, rfl⟩
  rw [hX]
  unfold pieS at hX
  have hPw := lt_of h.ps
  have x0 := nw_heap w (.cells zN 27)
  have b0 : Below w.heap.size w (w.alloc (.cells zN 27)) := (Below.refl _ _).alloc (Nat.le_refl _) _
  have z0 := sza w (.cells zN 27)
  have q := ha k _ (h.below b0)
  cases hr : at' k with
  | bad p er =>
    rw [hr] at q hX
    have HQ : Hid _ := And.intro q (And.intro hX b0)
    clear q h hX hr x0 b0 z0
    go_enter Try.func54, Try.ntmps54
    go_wp2_with fail
    refine Calls.mono HQ.out.1 ?_
    rintro e w1 ⟨rfl, hf1⟩
    exact ⟨rfl, mn_bad HQ.out.2.1 ((Fro.below HQ.out.2.2).trans' hf1 (fun i _ q => q))⟩
  | ok x k1 =>
    rw [hr] at q hX
    rw [R.bind_ok] at hX
    have HQ : Hid _ := And.intro q (And.intro hX (And.intro b0 (And.intro x0 z0)))
    clear q h hX hr x0 b0 z0
    go_enter Try.func54, Try.ntmps54
    go_wp2_with fail
    refine Calls.mono HQ.out.1 ?_
    rintro e w1 ⟨q0, s0, s1, s2, q2, q3, t0, t1, t2, rfl, hn1, hi1, hf1⟩
    have hX := HQ.out.2.1
    have hff : Fro (fun j => j = P) w w1 := (Fro.below HQ.out.2.2.1).trans' hf1 (fun i _ q => q)
    have hx1 : w1.heap[w.heap.size]? = some (.cells zN 27 (0, 0)) := hf1.at HQ.out.2.2.2.1 (by omega)
    have hOb : ∀ g, Nw (w.alloc (.cells zN 27)) w1 g → w.heap.size < g ∧ g < w1.heap.size := fun g hg => ⟨by have := hg.1; rw [HQ.out.2.2.2.2] at this; omega, hg.2⟩
    have b1 : Below w1.heap.size w1 (w1.alloc (.cells #[(.int .i64 q0), (.slice s0 s1 s2), (.int .i64 q2), (.int .i64 q3), (.slice t0 t1 t2)] 27)) := (Below.refl _ _).alloc (Nat.le_refl _) _
    have y1 := nw_heap w1 (.cells #[(.int .i64 q0), (.slice s0 s1 s2), (.int .i64 q2), (.int .i64 q3), (.slice t0 t1 t2)] 27)
    have hPW1 := lt_of hi1.ps
    have qt := times_p (hi1.below b1)
    have H1 : Hid _ := And.intro hff (And.intro hx1 (And.intro hn1 (And.intro hOb (And.intro b1 y1))))
    clear hi1 hf1 hff hx1 hn1 hOb b1 y1 HQ
    cases ht : timS l k1 with
    | bad p er =>
      rw [ht] at qt hX
      have H2 : Hid _ := And.intro qt hX
      clear qt hX ht
      go_wp2_with fail
      refine Calls.mono H2.out.1 ?_
      rintro e w3 ⟨rfl, hf3⟩
      exact ⟨rfl, mn_bad H2.out.2 ((H1.out.1.trans (Fro.below H1.out.2.2.2.2.1)).trans hf3)⟩
    | ok p k3 =>
      rw [ht] at qt hX
      rw [R.bind_ok] at hX
      obtain ⟨pa, pb, said⟩ := p
      dsimp only at hX
      have H2 : Hid _ := And.intro qt hX
      clear qt hX ht
      go_wp2_with fail
      refine Calls.mono H2.out.1 ?_
      rintro e w3 ⟨rfl, hi3, hf3⟩
      have hff3 := (H1.out.1.trans (Fro.below H1.out.2.2.2.2.1)).trans hf3
      have hx3 := hf3.at ((H1.out.2.2.2.2.1.block _ (lt_of H1.out.2.1)).trans H1.out.2.1) (by omega)
      have hy3 := hf3.at H1.out.2.2.2.2.2 (by omega)
      have hs13 : w1.heap.size < w3.heap.size := lt_of hy3
      have hnx : NdV (Nw (w.alloc (.cells zN 27)) w1) w3 x [(.int .i64 q0), (.slice s0 s1 s2), (.int .i64 q2), (.int .i64 q3), (.slice t0 t1 t2)] := H1.out.2.2.1.fro (fun g hg => hg) (Nat.le_of_lt hs13) (fun g hg hgs => (hf3.block g (by have := H1.out.2.2.2.2.1.size; omega) (by have := (H1.out.2.2.2.1 g hg).1; omega)).trans (H1.out.2.2.2.2.1.block g hgs))
      obtain ⟨⟨d0, d1, d2, d3, d4⟩, e0, e1, e2, e3, e4⟩ := cells5 hy3
      obtain ⟨⟨r0, r1, r2, r3, r4⟩, f0, f1, f2, f3, f4⟩ := cells5 hx3
      have hws : w.heap.size < w1.heap.size := lt_of H1.out.2.1
      have hwz : w.heap.size < w3.heap.size := by omega
      have H3 : Hid _ := And.intro hi3 (And.intro hff3 (And.intro hnx (And.intro hx3 H1.out.2.2.2.1)))
      clear hi3 hf3 hff3 hnx hx3 hy3 H1
      have hX := H2.out.2
      cases said with
      | false =>
        rw [if_neg (by decide)] at hX
        have HX : Hid _ := hX
        clear hX H2
        go_wp2_with fail
        have hp := put5_at H3.out.2.2.2.1 (.int .i64 q0) (.slice s0 s1 s2) (.int .i64 q2) (.int .i64 q3) (.slice t0 t1 t2)
        obtain ⟨⟨k0, k1', k2, k3', k4⟩, _⟩ := cells5 hp
        refine bodyPost_ret (v := .agg #[(.int .i64 q0), (.slice s0 s1 s2), (.int .i64 q2), (.int .i64 q3), (.slice t0 t1 t2)]) (by simp [results, Try.results54, go_sem, k0, k1', k2, k3', k4]) rfl (mn_ok HX.out (nd_fin H3.out.2.2.1 (fun g hg => ⟨(H3.out.2.2.2.2 g hg).1, by have := (H3.out.2.2.2.2 g hg).2; omega⟩) (.int .i64 q0) (.slice s0 s1 s2) (.int .i64 q2) (.int .i64 q3) (.slice t0 t1 t2)) (in_put5 H3.out.1 hPw (.int .i64 q0) (.slice s0 s1 s2) (.int .i64 q2) (.int .i64 q3) (.slice t0 t1 t2)) (put5_fro H3.out.2.1 (.inr (Nat.le_refl _)) (.int .i64 q0) (.slice s0 s1 s2) (.int .i64 q2) (.int .i64 q3) (.slice t0 t1 t2)))
      | true =>
        rw [if_pos rfl] at hX
        have HX : Hid _ := hX
        clear hX H2
        go_wp2_with fail
        obtain ⟨V, hV⟩ : ∃ V, put5 w3 w.heap.size (.int .i64 5) (.slice none 0 0) (.int .i64 pa) (.int .i64 pb) (.slice (some ⟨w3.heap.size, 0, none⟩) 1 1) = V := ⟨_, rfl⟩
        have va := put5_at H3.out.2.2.2.1 (.int .i64 5) (.slice none 0 0) (.int .i64 pa) (.int .i64 pb) (.slice (some ⟨w3.heap.size, 0, none⟩) 1 1)
        have vb' := put5_blk w3 w.heap.size (.int .i64 5) (.slice none 0 0) (.int .i64 pa) (.int .i64 pb) (.slice (some ⟨w3.heap.size, 0, none⟩) 1 1)
        have vs := put5_size w3 w.heap.size (.int .i64 5) (.slice none 0 0) (.int .i64 pa) (.int .i64 pb) (.slice (some ⟨w3.heap.size, 0, none⟩) 1 1)
        have vf := put5_fro H3.out.2.1 (.inr (Nat.le_refl _)) (.int .i64 5) (.slice none 0 0) (.int .i64 pa) (.int .i64 pb) (.slice (some ⟨w3.heap.size, 0, none⟩) 1 1)
        have vi := in_put5 H3.out.1 hPw (.int .i64 5) (.slice none 0 0) (.int .i64 pa) (.int .i64 pb) (.slice (some ⟨w3.heap.size, 0, none⟩) 1 1)
        rw [hV] at va vb' vs vf vi
        simp only [put5] at hV
        rw [hV]
        clear hV
        have b5 : Below V.heap.size V (V.alloc (.cells #[.int .i64 q0, .slice s0 s1 s2, .int .i64 q2, .int .i64 q3, .slice t0 t1 t2] 27)) := (Below.refl _ _).alloc (Nat.le_refl _) _
        have z5 := sza V (.cells #[.int .i64 q0, .slice s0 s1 s2, .int .i64 q2, .int .i64 q3, .slice t0 t1 t2] 27)
        have hx5 := (b5.block _ (lt_of va)).trans va
        have hc5 : ∀ (r : Nat) (u : Value), ([.int .i64 q0, .slice s0 s1 s2, .int .i64 q2, .int .i64 q3, .slice t0 t1 t2] : List Value)[r]? = some u → (V.alloc (.cells #[.int .i64 q0, .slice s0 s1 s2, .int .i64 q2, .int .i64 q3, .slice t0 t1 t2] 27)).cell? ⟨w3.heap.size, r, none⟩ = some u := fun r u hu => by
          have := lit_cell (W := V) (t := 27) hu
          rw [vs] at this
          exact this
        have ha5 : (V.alloc (.cells #[.int .i64 q0, .slice s0 s1 s2, .int .i64 q2, .int .i64 q3, .slice t0 t1 t2] 27)).heap[w3.heap.size]? = some (.cells #[.int .i64 q0, .slice s0 s1 s2, .int .i64 q2, .int .i64 q3, .slice t0 t1 t2] 27 (0, 0)) := by rw [← vs]; exact nw_heap V _
        have hnx5 : NdV (Nw w (V.alloc (.cells #[.int .i64 q0, .slice s0 s1 s2, .int .i64 q2, .int .i64 q3, .slice t0 t1 t2] 27))) (V.alloc (.cells #[.int .i64 q0, .slice s0 s1 s2, .int .i64 q2, .int .i64 q3, .slice t0 t1 t2] 27)) x [.int .i64 q0, .slice s0 s1 s2, .int .i64 q2, .int .i64 q3, .slice t0 t1 t2] :=
          H3.out.2.2.1.fro (fun g hg => ⟨Nat.le_of_lt (H3.out.2.2.2.2 g hg).1, by have := (H3.out.2.2.2.2 g hg).2; omega⟩) (by omega) (fun g hg hgs => (b5.block g (by omega)).trans (vb' g (by have := (H3.out.2.2.2.2 g hg).1; omega)))
        obtain ⟨U, hU⟩ : ∃ U, V.alloc (.cells #[.int .i64 q0, .slice s0 s1 s2, .int .i64 q2, .int .i64 q3, .slice t0 t1 t2] 27) = U := ⟨_, rfl⟩
        rw [hU] at b5 z5 hx5 hc5 hnx5 ha5 ⊢
        clear hU
        obtain ⟨⟨k0, k1', k2, k3', k4⟩, _⟩ := cells5 hx5
        have hnd : NdV (Nw w U) U (.nd 5 [] pa pb [x]) [.int .i64 5, .slice none 0 0, .int .i64 pa, .int .i64 pb, .slice (some ⟨w3.heap.size, 0, none⟩) 1 1] := by
          refine nd_kids (ns := [x]) (css := [[.int .i64 q0, .slice s0 s1 s2, .int .i64 q2, .int .i64 q3, .slice t0 t1 t2]]) 5 pa pb ⟨rfl, fun j hj => ?_⟩ ⟨by omega, by omega⟩ (by omega) ⟨_, ha5⟩ (by simp) (fun j r u hu => ?_)
          · have : j = 0 := by simpa using hj
            subst this
            exact hnx5
          · have hj : j = 0 := j_zero hu
            subst hj
            have := hc5 r u hu
            simpa using this
        refine bodyPost_ret (v := .agg #[.int .i64 5, .slice none 0 0, .int .i64 pa, .int .i64 pb, .slice (some ⟨w3.heap.size, 0, none⟩) 1 1]) (by simp [results, Try.results54, go_sem, k0, k1', k2, k3', k4]) rfl (mn_ok HX.out hnd (vi.below b5) (vf.trans (Fro.below b5)))
end Go.Proofs.Ythlkbijpphdblaa
