/- Joined: K5, K6. -/
import Derived.Test.YthlkbijpphdblaaK2b
import Derived.Test.YthlkbijpphdblaaZ51
namespace Go.Proofs.Ythlkbijpphdblaa
open Go.RowKit
set_option linter.unusedVariables false

/-- A node's kids: where they lie. -/
structure KdA (w : World) (n : Nd) (cs : List Value) (gb off : Nat) : Prop where
  nd : NdV (fun _ => True) w n cs
  cl : ∀ r u, cs[r]? = some u → w.cell? ⟨gb, off + r, none⟩ = some u
  lt : gb < w.heap.size
theorem kid_at {O : Nat → Prop} {w : World} {k a b : Int} {s : List Rg} {ks : List Nd} {cs : List Value} (h : NdV O w (.nd k s a b ks) cs) (hne : ks ≠ []) : ∃ (vs : Value) (gb off cap : Nat) (css : List (List Value)), cs = [.int .i64 k, vs, .int .i64 a, .int .i64 b, .slice (some ⟨gb, off, none⟩) ks.length cap] ∧ ks.length ≤ cap ∧ ∀ j (hj : j < ks.length), KdA w ks[j] (css.getD j []) gb (off + j * 5) := by
  cases h with
  | mk _ _ _ _ _ vs ad cap css hs hl hc hkk hn =>
    obtain ⟨gb, off, rfl, _, hgs, _, hcell⟩ := hkk.resolve_left hne
    exact ⟨vs, gb, off, cap, css, rfl, hc, fun j hj => ⟨(hn j hj).all, fun r u hu => hcell j r u hu, hgs⟩⟩
theorem KdA.on {w w' : World} {n : Nd} {cs : List Value} {gb off : Nat} (h : KdA w n cs gb off) (hb : Below w.heap.size w w') : KdA w' n cs gb off :=
  ⟨h.nd.bel hb, fun r u hu => (hb.cell (p := ⟨gb, off + r, none⟩) h.lt).trans (h.cl r u hu), by have := hb.size; have := h.lt; omega⟩
theorem OnQ.on {n : Nd} {w w1 : World} {e : Ending} (h : OnQ n w e w1) : ∃ (q0 : Int) (s0 : Option Addr) (s1 s2 : Nat) (q2 q3 : Int) (t0 : Option Addr) (t1 t2 : Nat), e = .returned (.agg #[.int .i64 q0, .slice s0 s1 s2, .int .i64 q2, .int .i64 q3, .slice t0 t1 t2]) ∧ RdV (fun _ => True) w1 n [.int .i64 q0, .slice s0 s1 s2, .int .i64 q2, .int .i64 q3, .slice t0 t1 t2] ∧ Below w.heap.size w w1 := by
  obtain ⟨q0, s0, s1, s2, q2, q3, t0, t1, t2, rfl, h1, h2⟩ := h
  exact ⟨q0, s0, s1, s2, q2, q3, t0, t1, t2, rfl, h1.fro (fun _ _ => trivial) (Nat.le_refl _) (fun _ _ _ => rfl), h2⟩
theorem box3' (w : World) (A B C : Obj) : (((w.alloc A).alloc B).alloc C).heap[w.heap.size]? = some A ∧ (((w.alloc A).alloc B).alloc C).heap[w.heap.size + 1]? = some B ∧ (((w.alloc A).alloc B).alloc C).heap[w.heap.size + 1 + 1]? = some C ∧ Below w.heap.size w (((w.alloc A).alloc B).alloc C) := by
  obtain ⟨h1, h2, h3⟩ := box2' w A B
  have hC := nw_heap ((w.alloc A).alloc B) C
  have b1 : Below ((w.alloc A).alloc B).heap.size ((w.alloc A).alloc B) (((w.alloc A).alloc B).alloc C) := (Below.refl _ _).alloc (Nat.le_refl _) _
  rw [sza, sza] at hC
  exact ⟨(b1.block _ (lt_of h1)).trans h1, (b1.block _ (lt_of h2)).trans h2, hC, h3.trans (b1.mono h3.size)⟩
set_option maxRecDepth 4000 in
set_option maxHeartbeats 8000000 in
theorem like_n {x y : Nd} (gx : GdN x) (gy : GdN y) {O O1 O2 : Nat → Prop} {w : World} {kd a b : Int} {s : List Rg} {cs xs ys : List Value} (h : NdV O w (.nd kd s a b [x, y]) cs) (hx : NdV O1 w x xs) (hy : NdV O2 w y ys) : Calls Try.prog 10 #[.agg cs.toArray, .int .i64 kd, .agg xs.toArray, .agg ys.toArray] w fun e w' => e = .returned (.bool true) ∧ Below w.heap.size w w' := by
  obtain ⟨vs, gb, off, cap, css, rfl, hcap, hkids⟩ := kid_at h (by simp)
  obtain ⟨o0, i1, i2, rfl⟩ : ∃ o0 i1 i2, vs = .slice o0 i1 i2 := by
    obtain ⟨i0, o0, i1, i2, i3, i4, i5, i6, i7, hi⟩ := nd_form h
    simp only [List.cons.injEq] at hi
    exact ⟨_, _, _, hi.2.1⟩
  have k0 := hkids 0 (by simp)
  have k1 := hkids 1 (by simp)
  obtain ⟨q0, s0, s1, s2, q2, q3, t0, t1, t2, hf0⟩ := nd_form k0.nd
  obtain ⟨p0, u0, u1, u2, p2, p3, v0, v1, v2, hf1⟩ := nd_form k1.nd
  obtain ⟨a0, b0, b1, b2, a2, a3, c0, c1, c2, rfl⟩ := nd_form hx
  obtain ⟨d0, e0, e1, e2, d2, d3, f0, f1, f2, rfl⟩ := nd_form hy
  rw [hf0] at k0
  rw [hf1] at k1
  have hl2 : ([x, y] : List Nd).length = 2 := rfl
  rw [hl2]
  obtain ⟨z1, z2, z3, hbW⟩ := box3' w (.cells #[.int .i64 kd, .slice o0 i1 i2, .int .i64 a, .int .i64 b, .slice (some ⟨gb, off, none⟩) 2 cap] 27) (.cells #[.int .i64 a0, .slice b0 b1 b2, .int .i64 a2, .int .i64 a3, .slice c0 c1 c2] 27) (.cells #[.int .i64 d0, .slice e0 e1 e2, .int .i64 d2, .int .i64 d3, .slice f0 f1 f2] 27)
  have HK : Hid _ := And.intro k0 (And.intro k1 (And.intro hx hy))
  have ee : (kd == kd) = true := by simp
  clear h hkids hf0 hf1 k0 k1 hx hy hl2 hcap
  go_enter Try.func10, Try.ntmps10
  go_upto_region 1 with fail
  obtain ⟨V, hV⟩ : ∃ V, ((w.alloc (.cells #[.int .i64 kd, .slice o0 i1 i2, .int .i64 a, .int .i64 b, .slice (some ⟨gb, off, none⟩) 2 cap] 27)).alloc (.cells #[.int .i64 a0, .slice b0 b1 b2, .int .i64 a2, .int .i64 a3, .slice c0 c1 c2] 27)).alloc (.cells #[.int .i64 d0, .slice e0 e1 e2, .int .i64 d2, .int .i64 d3, .slice f0 f1 f2] 27) = V := ⟨_, rfl⟩
  rw [hV] at z1 z2 z3 hbW ⊢
  have HF : Hid _ := And.intro hbW (And.intro z1 (And.intro z2 z3))
  clear hV
  have fS : ∀ X, Below V.heap.size V X → X.cell? ⟨w.heap.size, 0, none⟩ = some (.int .i64 kd) ∧ X.cell? ⟨w.heap.size, 4, none⟩ = some (.slice (some ⟨gb, off, none⟩) 2 cap) ∧
      (X.cell? ⟨w.heap.size + 1, 0, none⟩ = some (.int .i64 a0) ∧ X.cell? ⟨w.heap.size + 1, 1, none⟩ = some (.slice b0 b1 b2) ∧ X.cell? ⟨w.heap.size + 1, 2, none⟩ = some (.int .i64 a2) ∧ X.cell? ⟨w.heap.size + 1, 3, none⟩ = some (.int .i64 a3) ∧ X.cell? ⟨w.heap.size + 1, 4, none⟩ = some (.slice c0 c1 c2)) ∧
      (X.cell? ⟨w.heap.size + 1 + 1, 0, none⟩ = some (.int .i64 d0) ∧ X.cell? ⟨w.heap.size + 1 + 1, 1, none⟩ = some (.slice e0 e1 e2) ∧ X.cell? ⟨w.heap.size + 1 + 1, 2, none⟩ = some (.int .i64 d2) ∧ X.cell? ⟨w.heap.size + 1 + 1, 3, none⟩ = some (.int .i64 d3) ∧ X.cell? ⟨w.heap.size + 1 + 1, 4, none⟩ = some (.slice f0 f1 f2)) ∧
      (X.cell? ⟨gb, off, none⟩ = some (.int .i64 q0) ∧ X.cell? ⟨gb, off + 1, none⟩ = some (.slice s0 s1 s2) ∧ X.cell? ⟨gb, off + 2, none⟩ = some (.int .i64 q2) ∧ X.cell? ⟨gb, off + 3, none⟩ = some (.int .i64 q3) ∧ X.cell? ⟨gb, off + 4, none⟩ = some (.slice t0 t1 t2)) ∧
      (X.cell? ⟨gb, off + 5, none⟩ = some (.int .i64 p0) ∧ X.cell? ⟨gb, off + 5 + 1, none⟩ = some (.slice u0 u1 u2) ∧ X.cell? ⟨gb, off + 5 + 2, none⟩ = some (.int .i64 p2) ∧ X.cell? ⟨gb, off + 5 + 3, none⟩ = some (.int .i64 p3) ∧ X.cell? ⟨gb, off + 5 + 4, none⟩ = some (.slice v0 v1 v2)) := fun X hX => by
    obtain ⟨⟨m0, _, _, _, m4⟩, _⟩ := cells5 ((hX.block _ (lt_of z1)).trans z1)
    have hA := (cells5 ((hX.block _ (lt_of z2)).trans z2)).1
    have hB := (cells5 ((hX.block _ (lt_of z3)).trans z3)).1
    have K0 := ((HK.out.1.on hbW).on hX).cl
    have K1 := ((HK.out.2.1.on hbW).on hX).cl
    exact ⟨m0, m4, hA, hB, ⟨K0 0 _ rfl, K0 1 _ rfl, K0 2 _ rfl, K0 3 _ rfl, K0 4 _ rfl⟩, ⟨K1 0 _ rfl, K1 1 _ rfl, K1 2 _ rfl, K1 3 _ rfl, K1 4 _ rfl⟩⟩
  have HFS : Hid _ := fS
  have HC : Hid (Below V.heap.size V V.drew) := bdrewN (Below.refl _ _) 1
  have HN : Hid _ := And.intro (HK.out.1.nd.bel hbW) (And.intro (HK.out.2.1.nd.bel hbW) (And.intro (HK.out.2.2.1.bel hbW) (HK.out.2.2.2.bel hbW)))
  clear fS z1 z2 z3 hbW HK
  go_region_held_law (fun X => X.cell? ⟨w.heap.size, 0, none⟩ = some (.int .i64 kd) ∧ X.cell? ⟨w.heap.size, 4, none⟩ = some (.slice (some ⟨gb, off, none⟩) 2 cap) ∧
      (X.cell? ⟨w.heap.size + 1, 0, none⟩ = some (.int .i64 a0) ∧ X.cell? ⟨w.heap.size + 1, 1, none⟩ = some (.slice b0 b1 b2) ∧ X.cell? ⟨w.heap.size + 1, 2, none⟩ = some (.int .i64 a2) ∧ X.cell? ⟨w.heap.size + 1, 3, none⟩ = some (.int .i64 a3) ∧ X.cell? ⟨w.heap.size + 1, 4, none⟩ = some (.slice c0 c1 c2)) ∧
      (X.cell? ⟨w.heap.size + 1 + 1, 0, none⟩ = some (.int .i64 d0) ∧ X.cell? ⟨w.heap.size + 1 + 1, 1, none⟩ = some (.slice e0 e1 e2) ∧ X.cell? ⟨w.heap.size + 1 + 1, 2, none⟩ = some (.int .i64 d2) ∧ X.cell? ⟨w.heap.size + 1 + 1, 3, none⟩ = some (.int .i64 d3) ∧ X.cell? ⟨w.heap.size + 1 + 1, 4, none⟩ = some (.slice f0 f1 f2)) ∧
      (X.cell? ⟨gb, off, none⟩ = some (.int .i64 q0) ∧ X.cell? ⟨gb, off + 1, none⟩ = some (.slice s0 s1 s2) ∧ X.cell? ⟨gb, off + 2, none⟩ = some (.int .i64 q2) ∧ X.cell? ⟨gb, off + 3, none⟩ = some (.int .i64 q3) ∧ X.cell? ⟨gb, off + 4, none⟩ = some (.slice t0 t1 t2)) ∧
      (X.cell? ⟨gb, off + 5, none⟩ = some (.int .i64 p0) ∧ X.cell? ⟨gb, off + 5 + 1, none⟩ = some (.slice u0 u1 u2) ∧ X.cell? ⟨gb, off + 5 + 2, none⟩ = some (.int .i64 p2) ∧ X.cell? ⟨gb, off + 5 + 3, none⟩ = some (.int .i64 p3) ∧ X.cell? ⟨gb, off + 5 + 4, none⟩ = some (.slice v0 v1 v2))) (first | with_reducible exact HFS.out _ HC.out | fail)
    (first
      | (go_at_call 8; have hq := same_n gx HA1.out (HA2.out); (with_reducible refine Calls.mono hq ?_); clear hq; rintro e w7 ⟨rfl, hb7⟩; have hc7 := HC.out.trans (hb7.mono HC.out.size); clear HC HA1 HA2; have HC : Hid (Below V.heap.size V w7) := hc7; clear hc7 hb7)
      | (go_at_call 8; have hq := same_n gy HB1.out (HB2.out); (with_reducible refine Calls.mono hq ?_); clear hq; rintro e w7 ⟨rfl, hb7⟩; have hc7 := HC.out.trans (hb7.mono HC.out.size); clear HC HB1 HB2; have HC : Hid (Below V.heap.size V w7) := hc7; clear hc7 hb7)
      | (go_at_call 9; have hq := of_n gx (HN.out.1.bel HC.out); (with_reducible refine Calls.mono hq ?_); clear hq; intro e w6 hq6; obtain ⟨g0, g1, g2, g3, g4, g5, g6, g7, g8, rfl, hr6, hb6⟩ := hq6.on; clear hq6; have hc6 := HC.out.trans (hb6.mono HC.out.size); clear HC; have HC : Hid (Below V.heap.size V w6) := hc6; have HA1 : Hid _ := hr6; clear hc6 hb6 hr6)
      | (go_at_call 9; have hq := of_n gx (HN.out.2.2.1.bel HC.out); (with_reducible refine Calls.mono hq ?_); clear hq; intro e w6 hq6; obtain ⟨h0, h1, h2, h3, h4, h5, h6, h7, h8, rfl, hr6, hb6⟩ := hq6.on; clear hq6; have hc6 := HC.out.trans (hb6.mono HC.out.size); have ha1 := HA1.out.bl2 hb6; clear HC HA1; have HC : Hid (Below V.heap.size V w6) := hc6; have HA1 : Hid _ := ha1; have HA2 : Hid _ := hr6; clear hc6 hb6 hr6 ha1)
      | (go_at_call 9; have hq := of_n gy (HN.out.2.1.bel HC.out); (with_reducible refine Calls.mono hq ?_); clear hq; intro e w6 hq6; obtain ⟨j0, j1, j2, j3, j4, j5, j6, j7, j8, rfl, hr6, hb6⟩ := hq6.on; clear hq6; have hc6 := HC.out.trans (hb6.mono HC.out.size); clear HC; have HC : Hid (Below V.heap.size V w6) := hc6; have HB1 : Hid _ := hr6; clear hc6 hb6 hr6)
      | (go_at_call 9; have hq := of_n gy (HN.out.2.2.2.bel HC.out); (with_reducible refine Calls.mono hq ?_); clear hq; intro e w6 hq6; obtain ⟨l0, l1, l2, l3, l4, l5, l6, l7, l8, rfl, hr6, hb6⟩ := hq6.on; clear hq6; have hc6 := HC.out.trans (hb6.mono HC.out.size); have ha1 := HB1.out.bl2 hb6; clear HC HB1; have HC : Hid (Below V.heap.size V w6) := hc6; have HB1 : Hid _ := ha1; have HB2 : Hid _ := hr6; clear hc6 hb6 hr6 ha1)
      | fail)
  go_wp2_with fail
  go_ret
  exact ⟨rfl, HF.out.1.trans (HC.out.mono HF.out.1.size)⟩
end Go.Proofs.Ythlkbijpphdblaa
namespace Go.Proofs.Ythlkbijpphdblaa
open Go.RowKit
set_option linter.unusedVariables false

def NeB {α : Type} (x : R α) : Prop := match x with
  | .ok _ _ => True
  | .bad _ e => e ≠ 0
theorem NeB.ok {α : Type} {v : α} {k : Nat} : NeB (.ok v k) := trivial
theorem NeB.b2 {α : Type} {i : Int} : NeB (.bad i 2 : R α) := by show (2 : Int) ≠ 0; decide
theorem NeB.b3 {α : Type} {i : Int} : NeB (.bad i 3 : R α) := by show (3 : Int) ≠ 0; decide
theorem NeB.b6 {α : Type} {i : Int} : NeB (.bad i 6 : R α) := by show (6 : Int) ≠ 0; decide
theorem NeB.b9 {α : Type} {i : Int} : NeB (.bad i 9 : R α) := by show (9 : Int) ≠ 0; decide
theorem NeB.ite {α : Type} {c : Prop} [Decidable c] {x y : R α} (h : NeB x) (h' : NeB y) : NeB (if c then x else y) := by
  by_cases hc : c
  · rw [if_pos hc]; exact h
  · rw [if_neg hc]; exact h'
theorem NeB.bind {α β : Type} {x : R α} {f : α → Nat → R β} (h : NeB x) (hf : ∀ v k, NeB (f v k)) : NeB (x.bind f) := by
  cases x with
  | ok v k => exact hf v k
  | bad i e => exact h
theorem let_nb (l : Bs) (k : Nat) : NeB (letS l k) := by unfold letS; exact NeB.ite NeB.b2 NeB.ok
theorem pk_nb (l : Bs) (k : Nat) : NeB (pkS l k) := (let_nb l k).bind fun _ _ => NeB.ok
theorem sgn_nb (l : Bs) (c : Int) (k : Nat) : NeB (sgnS l c k) := (pk_nb l k).bind fun _ _ => NeB.ite NeB.ok NeB.b2
theorem go_nb (l : Bs) (k : Nat) : NeB (goS l k) := NeB.ite NeB.ok ((pk_nb l k).bind fun _ _ => NeB.ok)
theorem num_nb (l : Bs) (op : Int) : ∀ (f : Nat) (n : Int) (c k : Nat), NeB (numS l op f n c k)
  | 0, n, c, k => NeB.b9
  | f + 1, n, c, k => (pk_nb l k).bind fun _ _ => NeB.ite (NeB.ite NeB.b2 (num_nb l op f _ _ _)) (NeB.ite NeB.b2 NeB.ok)
theorem bndE_nb (l : Bs) (op a b : Int) (k : Nat) : NeB (bndE l op a b k) := (pk_nb l k).bind fun _ _ => NeB.ite NeB.ok NeB.b2
theorem bnd_nb (l : Bs) (op : Int) (k : Nat) : NeB (bndS l op k) := (num_nb l op _ _ _ _).bind fun _ _ => NeB.ite ((pk_nb l _).bind fun _ _ => NeB.ite (bndE_nb _ _ _ _ _) ((num_nb l op _ _ _ _).bind fun _ _ => bndE_nb _ _ _ _ _)) (bndE_nb _ _ _ _ _)
theorem tim_nb (l : Bs) (k : Nat) : NeB (timS l k) := NeB.ite NeB.ok (NeB.ite NeB.ok (NeB.ite NeB.ok (NeB.ite ((bnd_nb l _ _).bind fun _ _ => NeB.ok) NeB.ok)))
theorem nm_nb (l : Bs) : ∀ (f k : Nat), NeB (nmS l f k)
  | 0, k => NeB.b9
  | f + 1, k => (let_nb l k).bind fun _ _ => NeB.ite NeB.ok (nm_nb l f _)
theorem ent_nb (o k : Nat) : NeB (entS o k) := NeB.ite NeB.b3 NeB.ok
theorem ce_nb (l : Bs) (k : Nat) : NeB (ceS l k) := (pk_nb l k).bind fun _ _ => NeB.ite NeB.ok (NeB.ite ((pk_nb l _).bind fun _ _ => NeB.ok) NeB.ok)
theorem ld_nb (l : Bs) (k : Nat) : NeB (ldS l k) := (pk_nb l _).bind fun _ _ => NeB.ite NeB.ok (NeB.ite ((pk_nb l _).bind fun _ _ => NeB.ok) NeB.ok)
theorem db_nb (l : Bs) (k : Nat) : NeB (dbS l k) := (pk_nb l _).bind fun _ _ => NeB.ite ((ce_nb l k).bind fun _ _ => NeB.ite NeB.ok ((ld_nb l k).bind fun _ _ => NeB.ok)) NeB.ok
theorem ctg_nb (l : Bs) (bg : Int) (k : Nat) : NeB (ctgS l bg k) := (sgn_nb l _ k).bind fun _ _ => (nm_nb l _ _).bind fun _ _ => NeB.ite NeB.ok NeB.b6
theorem ep_nb (l : Bs) (k : Nat) : NeB (epS l k) := by
  unfold epS
  refine (let_nb l _).bind fun v k2 => ?_
  repeat' (first | with_reducible exact NeB.b2 | with_reducible exact NeB.ok | with_reducible exact ctg_nb _ _ _ | (with_reducible refine NeB.ite ?_ ?_) | exact (ctg_nb _ _ _).bind fun _ _ => NeB.ok)
theorem sg_nb (l : Bs) (f : Bool) (k : Nat) : NeB (sgS l f k) := (let_nb l k).bind fun _ _ => NeB.ite (ep_nb l k) (NeB.ite NeB.b2 (NeB.ite NeB.b2 (NeB.ite ((ld_nb l k).bind fun _ _ => NeB.ite NeB.ok NeB.b2) NeB.ok)))
theorem mb_nb (l : Bs) (f : Bool) (k : Nat) : NeB (mbS l f k) := (pk_nb l k).bind fun _ _ => (sg_nb l f k).bind fun _ _ => NeB.ite NeB.ok (NeB.ite NeB.ok ((db_nb l _).bind fun _ _ => NeB.ite ((sg_nb l _ _).bind fun _ _ => NeB.ite NeB.b2 (NeB.ite NeB.b2 NeB.ok)) NeB.ok))
theorem ml_nb (l : Bs) : ∀ (f : Nat) (first : Bool) (acc : List Rg) (k : Nat), NeB (mlS l f first acc k)
  | 0, first, acc, k => by cases first <;> exact NeB.b9
  | f + 1, true, acc, k => (mb_nb l true k).bind fun _ _ => ml_nb l f _ _ _
  | f + 1, false, acc, k => (ce_nb l k).bind fun _ _ => NeB.ite NeB.ok ((mb_nb l false k).bind fun _ _ => ml_nb l f _ _ _)
theorem cls_nb (l : Bs) : ∀ (f o k : Nat), NeB (clsS l f o k)
  | 0, o, k => NeB.b9
  | f + 1, o, k => (ent_nb o k).bind fun _ _ => (ml_nb l _ _ _ _).bind fun _ _ => NeB.ite ((cls_nb l f _ _).bind fun _ _ => (sgn_nb l _ _).bind fun _ _ => NeB.ok) ((sgn_nb l _ _).bind fun _ _ => NeB.ok)
theorem pie_nb {g : Nat → R Nd} (H : ∀ k, NeB (g k)) (l : Bs) (k : Nat) : NeB (pieS g l k) := (H k).bind fun _ _ => (tim_nb l _).bind fun _ _ => NeB.ok
theorem pcs_nb {g : Nat → R Nd} (H : ∀ k, NeB (g k)) (l : Bs) : ∀ (f : Nat) (acc : List Nd) (k : Nat), NeB (pcsS g l f acc k)
  | 0, acc, k => NeB.b9
  | f + 1, acc, k => (go_nb l k).bind fun _ _ => NeB.ite ((pie_nb H l k).bind fun _ _ => pcs_nb H l f _ _) NeB.ok
theorem als_nb {g : Nat → R Nd} (H : ∀ k, NeB (g k)) (l : Bs) : ∀ (f : Nat) (acc : List Nd) (k : Nat), NeB (alsS g l f acc k)
  | 0, acc, k => NeB.b9
  | f + 1, acc, k => NeB.ite ((pcs_nb H l _ _ _).bind fun _ _ => als_nb H l f _ _) NeB.ok
theorem pat_nb {g : Nat → R Nd} (H : ∀ k, NeB (g k)) (l : Bs) (k : Nat) : NeB (patS g l k) := (pcs_nb H l _ _ _).bind fun _ _ => als_nb H l _ _ _
theorem atom_nb (l : Bs) : ∀ (d o k : Nat), NeB (atomS l d o k)
  | 0, o, k => NeB.b9
  | d + 1, o, k => by
    unfold atomS
    refine (let_nb l _).bind fun v k2 => ?_
    refine NeB.ite ((ent_nb _ _).bind fun _ _ => (pat_nb (atom_nb l d (o + 1)) l _).bind fun _ _ => (sgn_nb l _ _).bind fun _ _ => NeB.ok) (NeB.ite ((cls_nb l _ _ _).bind fun _ _ => NeB.ok) (NeB.ite ((ep_nb l _).bind fun _ _ => NeB.ok) ?_))
    repeat' (first | with_reducible exact NeB.b2 | with_reducible exact NeB.ok | (with_reducible refine NeB.ite ?_ ?_))
theorem par_nb (l : Bs) : NeB (parS l) := NeB.ite NeB.b3 ((pat_nb (atom_nb l _ _) l _).bind fun _ _ => NeB.ite NeB.ok NeB.b2)
theorem par_ne {l : Bs} {i e : Int} (h : parS l = .bad i e) : e ≠ 0 := by
  have := par_nb l
  rw [h] at this
  exact this
/-- What Parse leaves, in one form. -/
def PyQ (l : Bs) (w : World) (e : Ending) (w' : World) : Prop := ∃ (q0 : Int) (s0 : Option Addr) (s1 s2 : Nat) (q2 q3 : Int) (t0 : Option Addr) (t1 t2 : Nat) (p er : Int), e = .returned (.tuple #[.agg #[.int .i64 q0, .slice s0 s1 s2, .int .i64 q2, .int .i64 q3, .slice t0 t1 t2], .int .i64 p, .int .i64 er]) ∧ Below w.heap.size w w' ∧ (∀ n k, parS l = .ok n k → er = 0 ∧ NdV (fun _ => True) w' n [.int .i64 q0, .slice s0 s1 s2, .int .i64 q2, .int .i64 q3, .slice t0 t1 t2]) ∧ ∀ i j, parS l = .bad i j → er = j
theorem parse_y (s : ByteArray) (w : World) : Calls Try.prog 6 #[.string s] w fun e w' => PyQ (bl s) w e w' := by
  refine Calls.mono (parse_p s w) ?_
  intro e w' h
  cases hp : parS (bl s) with
  | ok n k =>
    rw [hp] at h
    obtain ⟨q0, s0, s1, s2, q2, q3, t0, t1, t2, rfl, hn, hb⟩ := h
    refine ⟨q0, s0, s1, s2, q2, q3, t0, t1, t2, 0, 0, rfl, hb, fun n' k' h' => ?_, fun i j h' => ?_⟩
    · rw [hp] at h'
      injection h' with h1 h2
      subst h1
      exact ⟨rfl, hn.all⟩
    · rw [hp] at h'
      cases h'
  | bad i j =>
    rw [hp] at h
    obtain ⟨rfl, hb⟩ := h
    refine ⟨0, none, 0, 0, 0, 0, none, 0, 0, i, j, rfl, hb, fun n' k' h' => ?_, fun i' j' h' => ?_⟩
    · rw [hp] at h'
      cases h'
    · rw [hp] at h'
      injection h' with h1 h2
end Go.Proofs.Ythlkbijpphdblaa
