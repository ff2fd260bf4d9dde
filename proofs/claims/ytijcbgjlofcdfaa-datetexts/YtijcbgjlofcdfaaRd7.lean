/- The program's closures: clockInto. -/
import Derived.Test.YtijcbgjlofcdfaaRd6
namespace Go.Proofs.Ytijcbgjlofcdfaa
open Go.RowKit
set_option linter.unusedVariables false

/-- What two, mark and the like have made. -/
structure TwB (w w' : World) (b1 b2 b3 : Nat) (p : Option Addr) (lo hi : Int) : Prop where
  l1 : w.heap.size ≤ b1
  l2 : w.heap.size ≤ b2
  l3 : w.heap.size ≤ b3
  x1 : w'.heap[b1]? = some (.cells #[.pointer p] 86 (0, 0))
  x2 : w'.heap[b2]? = some (.cells #[.int .i64 lo] 3 (0, 0))
  x3 : w'.heap[b3]? = some (.cells #[.int .i64 hi] 3 (0, 0))
  bl : Below w.heap.size w w'
structure MkB (w w' : World) (b : Nat) (v : Value) (t : TypeId) : Prop where
  l : w.heap.size ≤ b
  x : w'.heap[b]? = some (.cells #[v] t (0, 0))
  bl : Below w.heap.size w w'
theorem two_m (p : Option Addr) (lo hi : Int) (w : World) : Calls Try.prog 60 #[.pointer p, .int .i64 lo, .int .i64 hi] w fun e w' => ∃ b1 b2 b3, e = .returned (fnV (77, #[pt b1, pt b2, pt b3])) ∧ TwB w w' b1 b2 b3 p lo hi := by
  refine Calls.mono (mk_two p lo hi w) ?_
  rintro e w' ⟨rfl, x1, x2, x3, hb⟩
  exact ⟨_, _, _, rfl, Nat.le_refl _, by omega, by omega, x1, x2, x3, hb⟩
theorem mark_m (v : ByteArray) (w : World) : Calls Try.prog 58 #[.string v] w fun e w' => ∃ b, e = .returned (fnV (74, #[pt b])) ∧ MkB w w' b (.string v) 9 := by
  refine Calls.mono (mk_mark v w) ?_
  rintro e w' ⟨b, rfl, l, x, hb⟩
  exact ⟨b, rfl, l, x, hb⟩
theorem TwB.fc {w w' U : World} {b1 b2 b3 B off : Nat} {lo hi : Int} (h : TwB w w' b1 b2 b3 (some ⟨B, off, none⟩) lo hi) (hU : Below w'.heap.size w' U) {σ : Type} {O : Nat → Prop} {St : σ → World → Prop} (hO : ∀ i, O i → i < w.heap.size) (hB : O B) (set : σ → Int → σ) (hst : CellSt St B off set) :
    FC U O St (77, #[pt b1, pt b2, pt b3]) (fun a l => (inB lo hi l).map fun x => (set a x.1, x.2)) :=
  fc_two b1 b2 b3 B off lo hi set ((hU.block _ (lt_of h.x1)).trans h.x1) ((hU.block _ (lt_of h.x2)).trans h.x2) ((hU.block _ (lt_of h.x3)).trans h.x3) (fun q => by have := hO _ q; have := h.l1; omega) (fun q => by have := hO _ q; have := h.l2; omega) (fun q => by have := hO _ q; have := h.l3; omega) hB hst
theorem MkB.at {w w' U : World} {b : Nat} {v : Value} {t : TypeId} (h : MkB w w' b v t) (hU : Below w'.heap.size w' U) : U.heap[b]? = some (.cells #[v] t (0, 0)) := (hU.block _ (lt_of h.x)).trans h.x
theorem MkB.fc {w w' U : World} {b : Nat} {c : UInt8} (h : MkB w w' b (.string ⟨#[c]⟩) 9) (hU : Below w'.heap.size w' U) {σ : Type} {O : Nat → Prop} {St : σ → World → Prop} (hO : ∀ i, O i → i < w.heap.size) : FC U O St (74, #[pt b]) (gMk (c.toNat : Int)) :=
  fc_mark c b (h.at hU) (fun q => by have := hO _ q; have := h.l; omega)
theorem bl_step {a b c : World} (h : Below a.heap.size a b) (k : Below b.heap.size b c) : Below a.heap.size a c := h.trans (k.mono h.size)
abbrev T3 := Int × Int × Int
/-- Three numbers in boxes of their own. -/
structure St3 (H : Nat) (x : T3) (W : World) : Prop where
  a : W.heap[H]? = some (.cells #[.int .i64 x.1] 3 (0, 0))
  b : W.heap[H + 1]? = some (.cells #[.int .i64 x.2.1] 3 (0, 0))
  c : W.heap[H + 2]? = some (.cells #[.int .i64 x.2.2] 3 (0, 0))
  a0 : -1000000000 < x.1 ∧ x.1 < 1000000000
  b0 : -1000000000 < x.2.1 ∧ x.2.1 < 1000000000
  c0 : -1000000000 < x.2.2 ∧ x.2.2 < 1000000000
theorem St3.s1 (H : Nat) : CellSt (St3 H) H 0 (fun x n => (n, x.2)) := by
  intro x W h
  refine ⟨_, _, _, h.a, rfl, fun n W' n0 n1 hx hf => ⟨hx, hf.at h.b (by omega), hf.at h.c (by omega), ⟨n0, n1⟩, h.b0, h.c0⟩⟩
theorem St3.s2 (H : Nat) : CellSt (St3 H) (H + 1) 0 (fun x n => (x.1, n, x.2.2)) := by
  intro x W h
  refine ⟨_, _, _, h.b, rfl, fun n W' n0 n1 hx hf => ⟨hf.at h.a (by omega), hx, hf.at h.c (by omega), h.a0, ⟨n0, n1⟩, h.c0⟩⟩
theorem St3.s3 (H : Nat) : CellSt (St3 H) (H + 2) 0 (fun x n => (x.1, x.2.1, n)) := by
  intro x W h
  refine ⟨_, _, _, h.c, rfl, fun n W' n0 n1 hx hf => ⟨hf.at h.a (by omega), hf.at h.b (by omega), hx, h.a0, h.b0, ⟨n0, n1⟩⟩⟩
def g5 : List (Gd T3) := [fun a l => (inB 0 24 l).map fun x => ((x.1, a.2), x.2), gMk 58, fun a l => (inB 0 59 l).map fun x => ((a.1, x.1, a.2.2), x.2), gMk 58, fun a l => (inB 0 59 l).map fun x => ((a.1, a.2.1, x.1), x.2)]
/-- clockInto. -/
def ckG (l : List Int) : Option (Int × List Int) := (runG g5 (0, 0, 0) l).bind fun x => if 3600 * x.1.1 + 60 * x.1.2.1 + x.1.2.2 ≤ 86400 then some (3600 * x.1.1 + 60 * x.1.2.1 + x.1.2.2, x.2) else none
def ClP (s : ByteArray) (B off : Nat) (W : World) (cs : Array Value) (t : TypeId) (e : Ending) (W' : World) : Prop :=
  ∃ (t' : ByteArray) (n : Int), e = .returned (.tuple #[.string t', .bool (ckG (bl s)).isSome]) ∧ t'.size ≤ s.size ∧ W'.heap[B]? = some (.cells (cs.setIfInBounds off (.int .i64 n)) t (0, 0)) ∧ Fro (fun k => k = B) W W' ∧ (-10000000000000 < n ∧ n < 10000000000000) ∧ (∀ x, ckG (bl s) = some x → bl t' = x.2 ∧ n = x.1)
set_option maxHeartbeats 1000000 in
theorem clock_c (s : ByteArray) (b1 B off : Nat) (W : World) (cs : Array Value) (t : TypeId) (v : Value) (h1 : W.heap[b1]? = some (.cells #[.pointer (some ⟨B, off, none⟩)] 86 (0, 0)))
    (hB : W.heap[B]? = some (.cells cs t (0, 0))) (hv : cs[off]? = some v) (n1 : B ≠ b1) (hs : s.size ≤ maxLen) :
    Calls Try.prog 79 #[.string s, pt b1] W (ClP s B off W cs t) := by
  have HH : Hid _ := And.intro h1 (And.intro hB hv)
  clear h1 hB hv
  have H3 : Hid _ := box3' W (.cells #[.int .i64 0] 3) (.cells #[.int .i64 0] 3) (.cells #[.int .i64 0] 3)
  go_enter Try.func79, Try.ntmps79
  go_wp2_with fail
  obtain ⟨U0, hU0⟩ : ∃ U0, ((W.alloc (.cells #[.int .i64 0] 3)).alloc (.cells #[.int .i64 0] 3)).alloc (.cells #[.int .i64 0] 3) = U0 := ⟨_, rfl⟩
  rw [hU0] at H3 ⊢
  have hz0 : U0.heap.size = W.heap.size + 3 := by rw [← hU0]; simp
  clear hU0
  refine Calls.mono (two_m _ _ _ _) ?_
  rintro e w1 ⟨p1, p2, p3, rfl, h1⟩
  have H1 : Hid _ := And.intro h1 hz0
  clear h1 hz0
  go_wp2_with fail
  refine Calls.mono (mark_m _ _) ?_
  rintro e w2 ⟨p4, rfl, h2⟩
  have H2 : Hid _ := And.intro h2 trivial
  clear h2
  go_wp2_with fail
  refine Calls.mono (two_m _ _ _ _) ?_
  rintro e w3 ⟨p5, p6, p7, rfl, h3⟩
  have H5 : Hid _ := And.intro h3 trivial
  clear h3
  go_wp2_with fail
  refine Calls.mono (mark_m _ _) ?_
  rintro e w4 ⟨p8, rfl, h4⟩
  have H6 : Hid _ := And.intro h4 trivial
  clear h4
  go_wp2_with fail
  refine Calls.mono (two_m _ _ _ _) ?_
  rintro e w5 ⟨p9, p10, p11, rfl, h5⟩
  have H7 : Hid _ := And.intro h5 trivial
  clear h5
  go_wp2_with fail
  obtain ⟨U, hU⟩ : ∃ U, (w5.alloc (.cells #[fnV (77, #[pt p1, pt p2, pt p3]), fnV (74, #[pt p4]), fnV (77, #[pt p5, pt p6, pt p7]), fnV (74, #[pt p8]), fnV (77, #[pt p9, pt p10, pt p11])] 69)) = U := ⟨_, rfl⟩
  rw [hU]
  have u5 : Below w5.heap.size w5 U := by rw [← hU]; exact (Below.refl _ _).alloc (Nat.le_refl _) _
  have hUx : U.heap[w5.heap.size]? = some (.cells #[fnV (77, #[pt p1, pt p2, pt p3]), fnV (74, #[pt p4]), fnV (77, #[pt p5, pt p6, pt p7]), fnV (74, #[pt p8]), fnV (77, #[pt p9, pt p10, pt p11])] 69 (0, 0)) := by rw [← hU]; exact nw_heap _ _
  clear hU
  have u4 := bl_step H7.out.1.bl u5
  have u3 := bl_step H6.out.1.bl u4
  have u2 := bl_step H5.out.1.bl u3
  have u1 := bl_step H2.out.1.bl u2
  have u0 := bl_step H1.out.1.bl u1
  have uW : Below W.heap.size W U := H3.out.2.2.2.trans (u0.mono H3.out.2.2.2.size)
  have sz := H1.out.2
  have s1 := H1.out.1.bl.size
  have s2 := H2.out.1.bl.size
  have s3 := H5.out.1.bl.size
  have s4 := H6.out.1.bl.size
  have s5 := H7.out.1.bl.size
  have hfc : FCs U (fun k => k = W.heap.size ∨ k = W.heap.size + 1 ∨ k = W.heap.size + 2) (St3 W.heap.size) [(77, #[pt p1, pt p2, pt p3]), (74, #[pt p4]), (77, #[pt p5, pt p6, pt p7]), (74, #[pt p8]), (77, #[pt p9, pt p10, pt p11])] g5 :=
    .cons (H1.out.1.fc u1 (by omega) (by simp) _ (St3.s1 W.heap.size)) (.cons (H2.out.1.fc u2 (by omega)) (.cons (H5.out.1.fc u3 (by omega) (by simp) _ (St3.s2 W.heap.size)) (.cons (H6.out.1.fc u4 (by omega)) (.cons (H7.out.1.fc u5 (by omega) (by simp) _ (St3.s3 W.heap.size)) .nil))))
  have hst : St3 W.heap.size (0, 0, 0) U := ⟨(u0.block _ (lt_of H3.out.1)).trans H3.out.1, (u0.block _ (lt_of H3.out.2.1)).trans H3.out.2.1, (u0.block _ (lt_of H3.out.2.2.1)).trans H3.out.2.2.1, by simp, by simp, by simp⟩
  refine Calls.mono (read_p hfc w5.heap.size hUx (by omega) (by simp) U (0, 0, 0) s (Fro.refl _ _) hst hs) ?_
  rintro e w6 ⟨t', b, ⟨hh, mm, ss⟩, rfl, hfr, hst6, hts, hm⟩
  have fW : Fro (fun k => k = B) W w6 := (Fro.below uW).trans' hfr (fun i hi q => by omega)
  have H8 : Hid _ := And.intro hst6 (And.intro fW (And.intro hts hm))
  have bB : w6.heap[B]? = some (.cells cs t (0, 0)) := ((Fro.below (O := fun _ => False) uW).trans' hfr (fun i hi q => by omega)).at HH.out.2.1 (by simp)
  have b1x : w6.heap[b1]? = some (.cells #[.pointer (some ⟨B, off, none⟩)] 86 (0, 0)) := ((Fro.below (O := fun _ => False) uW).trans' hfr (fun i hi q => by omega)).at HH.out.1 (by simp)
  have hnlt : B < W.heap.size := lt_of HH.out.2.1
  obtain ⟨⟨a1, a2⟩, ⟨a3, a4⟩, a5, a6⟩ := And.intro hst6.a0 (And.intro hst6.b0 hst6.c0)
  dsimp only at a1 a2 a3 a4 a5 a6
  have ca := cl1 hst6.a
  have cb := cl1 hst6.b
  have cc := cl1 hst6.c
  have c1 := cl1 b1x
  obtain ⟨cB, fB⟩ := cl_at bB HH.out.2.2
  have H9 : Hid _ := And.intro bB b1x
  clear hst6 fW hts hm bB b1x u0 u1 u2 u3 u4 u5 uW hfc hst hUx hfr H1 H2 H5 H6 H7 H3 sz s1 s2 s3 s4 s5
  go_wp2_with fail
  obtain ⟨N, hN⟩ : ∃ N, 3600 * hh + 60 * mm + ss = N := ⟨_, rfl⟩
  rw [hN]
  have hNb : -10000000000000 < N ∧ N < 10000000000000 := by omega
  have c1' : (w6.setCell ⟨B, off, none⟩ (.int .i64 N)).cell? ⟨b1, 0, none⟩ = some (.pointer (some ⟨B, off, none⟩)) := cl1 ((Below.heap_setCell _ _ _ _ (by simpa using n1.symm)).trans H9.out.2)
  have hx7 := bset (i := off) H9.out.1 (.int .i64 N)
  have cB' := (cl_at hx7 (set_get HH.out.2.2 _)).1
  have f7 : Fro (fun k => k = B) W (w6.setCell ⟨B, off, none⟩ (.int .i64 N)) := H8.out.2.1.set (X := B) (i := off) (.inl rfl) _
  have hR : ∀ y, ckG (bl s) = y → (y = if b = true ∧ N ≤ 86400 then some (N, bl t') else none) := by
    intro y hy
    rw [← hy]
    have hm := H8.out.2.2.2
    unfold ckG
    cases hg : runG g5 (0, 0, 0) (bl s) with
    | none =>
      rw [hg] at hm
      rw [if_neg (by rw [hm.1]; simp)]
      rfl
    | some x =>
      rw [hg] at hm
      obtain ⟨rfl, hx, hbl⟩ := hm
      obtain ⟨x1, x2⟩ := x
      dsimp only at hx
      subst hx
      rw [Option.bind_some]
      dsimp only at *
      rw [hN, hbl]
      simp
  have HR : Hid _ := And.intro hR (And.intro hx7 (And.intro f7 (And.intro hNb H8.out.2.2.1)))
  generalize (w6.setCell ⟨B, off, none⟩ (.int .i64 N)) = W7 at *
  clear hR hx7 f7 hNb ca cb cc c1 cB fB H8 H9 hN
  cases b
  · go_quiet (fail)
    go_wp2_with fail
    go_ret2
    have e1 := HR.out.1 _ rfl
    rw [if_neg (by simp)] at e1
    refine ⟨t', N, by rw [e1]; rfl, HR.out.2.2.2.2, HR.out.2.1, HR.out.2.2.1.drewN _, HR.out.2.2.2.1, fun x hx => ?_⟩
    rw [e1] at hx
    cases hx
  · by_cases hq : N ≤ 86400
    · go_quiet (fail)
      go_wp2_with fail
      go_ret2
      have e1 := HR.out.1 _ rfl
      rw [if_pos (by simp [hq])] at e1
      refine ⟨t', N, by rw [e1]; rfl, HR.out.2.2.2.2, HR.out.2.1, HR.out.2.2.1.drewN _, HR.out.2.2.2.1, fun x hx => ?_⟩
      rw [e1] at hx
      cases hx
      exact ⟨rfl, rfl⟩
    · have hq' : decide (N ≤ 86400) = false := by simpa using hq
      go_quiet (fail)
      go_wp2_with fail
      go_ret2
      have e1 := HR.out.1 _ rfl
      rw [if_neg (by simp [hq])] at e1
      refine ⟨t', N, by rw [e1]; rfl, HR.out.2.2.2.2, HR.out.2.1, HR.out.2.2.1.drewN _, HR.out.2.2.2.1, fun x hx => ?_⟩
      rw [e1] at hx
      cases hx
end Go.Proofs.Ytijcbgjlofcdfaa
