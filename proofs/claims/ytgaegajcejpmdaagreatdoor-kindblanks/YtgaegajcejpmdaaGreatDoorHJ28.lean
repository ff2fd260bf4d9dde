/- Joined: HDtRd6, HDtRd7, HDtRd8. -/
import Derived.Test.YtgaegajcejpmdaaGreatDoorHJ24
import Derived.Test.YtgaegajcejpmdaaGreatDoorHJ27
namespace Go.Proofs.YtgaegajcejpmdaaGreatDoor.Dt
open Go.RowKit
set_option linter.unusedVariables false

set_option maxHeartbeats 1000000 in
theorem day_c (s : ByteArray) (b1 M : Nat) (W : World) (a : Mo) (h1 : W.heap[b1]? = some (.cells #[.pointer (some ⟨M, 0, none⟩)] 143 (0, 0))) (hM : W.heap[M]? = some (.cells (moC a) 36 (0, 0))) (n1 : M ≠ b1) (ha : MoB a) (hs : s.size ≤ maxLen) :
    Calls Tryz.prog 191 #[.string s, pt b1] W fun e W' => e = .returned (.tuple #[.string (s.extract (dk 2 (bl s)) s.size), .bool (twOk 1 (lenL (lnY a.y) a.m) (bl s))]) ∧ (W'.heap[M]? = some (.cells (moC { a with d := dvl ((bl s).take (dk 2 (bl s))) }) 36 (0, 0)) ∧ Fro (fun k => k = M) W W') := by
  obtain ⟨⟨k0, k1, k2, k3, k4, k5, k6, k7⟩, _⟩ := blk8 hM
  have c1 := cl1 h1
  have q1 := fun U : World => length_p a.y a.m U (by have := ha.y0; omega) (by have := ha.y1; omega) (by have := ha.m0; omega) (by have := ha.m1; omega)
  have q2 := fun U : World => mk_two (some ⟨M, 3, none⟩) 1 (lenL (lnY a.y) a.m) U
  have q3 := fun (U : World) (b1 b2 b3 : Nat) x1 x2 x3 (xM : U.heap[M]? = some (.cells (moC a) 36 (0, 0))) y1 y2 y3 => two_c s b1 b2 b3 M 3 1 (lenL (lnY a.y) a.m) U (moC a) 36 _ x1 x2 x3 xM rfl y1 y2 y3 hs
  generalize lenL (lnY a.y) a.m = LEN at *
  generalize twOk 1 LEN (bl s) = TW at *
  generalize dvl ((bl s).take (dk 2 (bl s))) = V at *
  generalize dk 2 (bl s) = K at *
  have HC : Hid _ := And.intro q1 (And.intro q2 q3)
  have HM : Hid _ := And.intro hM h1
  have HB : Hid (Below W.heap.size W W.drew) := below_drewN 1
  have hml : M < W.heap.size := lt_of hM
  clear q1 q2 q3 h1
  have g1 : W.drew.cell? ⟨b1, 0, none⟩ = some (.pointer (some ⟨M, 0, none⟩)) := c1
  have g2 : W.drew.cell? ⟨M, 1, none⟩ = some (.int .i64 a.y) := k1
  have g3 : W.drew.cell? ⟨M, 2, none⟩ = some (.int .i64 a.m) := k2
  clear hM k0 k1 k2 k3 k4 k5 k6 k7 c1
  go_enter Tryz.func191, Tryz.ntmps191
  go_wp2_with fail
  go_region_held3 (fun X => X.cell? ⟨b1, 0, none⟩ = some (.pointer (some ⟨M, 0, none⟩)) ∧ X.cell? ⟨M, 1, none⟩ = some (.int .i64 a.y) ∧ X.cell? ⟨M, 2, none⟩ = some (.int .i64 a.m)) (first | exact ⟨g1, g2, g3⟩ | fail) (first
    | (go_at_call 137; (with_reducible refine Calls.mono (HC.out.1 _) ?_); rintro e w1 ⟨rfl, hw1⟩; subst hw1)
    | (go_at_call 161; (with_reducible refine Calls.mono (HC.out.2.1 _) ?_); rintro e w2 ⟨rfl, x1, x2, x3, hb2⟩; have hsz := HB.out.size; have HX : Hid _ := And.intro x1 (And.intro x2 (And.intro x3 hsz)); have hbb := HB.out.trans (hb2.mono HB.out.size); clear HB g1 g2 g3 x1 x2 x3 hsz; have g1 := cl1 ((hbb.block _ (lt_of HM.out.2)).trans HM.out.2); have xM := (hbb.block _ (lt_of HM.out.1)).trans HM.out.1; obtain ⟨⟨_, g2, g3, _⟩, _⟩ := blk8 xM; have HB : Hid _ := And.intro hbb xM; clear hbb hb2 xM)
    | (go_at_call 190; (refine Calls.mono (HC.out.2.2 _ _ _ _ HX.out.1 HX.out.2.1 HX.out.2.2.1 HB.out.2 (by have := HX.out.2.2.2; omega) (by have := HX.out.2.2.2; omega) (by have := HX.out.2.2.2; omega)) ?_); rintro e w3 ⟨rfl, xM3, hf3⟩; have HE : Hid _ := And.intro xM3 ((Fro.below HB.out.1).trans' hf3 (fun i _ q => q)); clear g1 g2 g3; obtain ⟨⟨_, g2, g3, _⟩, _⟩ := blk8 (show w3.heap[M]? = some (.cells (moC { a with d := V }) 36 (0, 0)) from xM3); have g1 := cl1 (hf3.at ((HB.out.1.block _ (lt_of HM.out.2)).trans HM.out.2) (fun q => n1 q.symm)); clear xM3 hf3)
    | fail)
  all_goals
    go_wp2_with fail
    go_ret2
    exact ⟨rfl, HE.out⟩
end Go.Proofs.YtgaegajcejpmdaaGreatDoor.Dt
namespace Go.Proofs.YtgaegajcejpmdaaGreatDoor.Dt
open Go.RowKit
set_option linter.unusedVariables false

/-- What two, mark and the like have made. -/
structure TwB (w w' : World) (b1 b2 b3 : Nat) (p : Option Addr) (lo hi : Int) : Prop where
  l1 : w.heap.size ≤ b1
  l2 : w.heap.size ≤ b2
  l3 : w.heap.size ≤ b3
  x1 : w'.heap[b1]? = some (.cells #[.pointer p] 167 (0, 0))
  x2 : w'.heap[b2]? = some (.cells #[.int .i64 lo] 3 (0, 0))
  x3 : w'.heap[b3]? = some (.cells #[.int .i64 hi] 3 (0, 0))
  bl : Below w.heap.size w w'
structure MkB (w w' : World) (b : Nat) (v : Value) (t : TypeId) : Prop where
  l : w.heap.size ≤ b
  x : w'.heap[b]? = some (.cells #[v] t (0, 0))
  bl : Below w.heap.size w w'
theorem two_m (p : Option Addr) (lo hi : Int) (w : World) : Calls Tryz.prog 161 #[.pointer p, .int .i64 lo, .int .i64 hi] w fun e w' => ∃ b1 b2 b3, e = .returned (fnV (190, #[pt b1, pt b2, pt b3])) ∧ TwB w w' b1 b2 b3 p lo hi := by
  refine Calls.mono (mk_two p lo hi w) ?_
  rintro e w' ⟨rfl, x1, x2, x3, hb⟩
  exact ⟨_, _, _, rfl, Nat.le_refl _, by omega, by omega, x1, x2, x3, hb⟩
theorem mark_m (v : ByteArray) (w : World) : Calls Tryz.prog 159 #[.string v] w fun e w' => ∃ b, e = .returned (fnV (187, #[pt b])) ∧ MkB w w' b (.string v) 9 := by
  refine Calls.mono (mk_mark v w) ?_
  rintro e w' ⟨b, rfl, l, x, hb⟩
  exact ⟨b, rfl, l, x, hb⟩
theorem TwB.fc {w w' U : World} {b1 b2 b3 B off : Nat} {lo hi : Int} (h : TwB w w' b1 b2 b3 (some ⟨B, off, none⟩) lo hi) (hU : Below w'.heap.size w' U) {σ : Type} {O : Nat → Prop} {St : σ → World → Prop} (hO : ∀ i, O i → i < w.heap.size) (hB : O B) (set : σ → Int → σ) (hst : CellSt St B off set) :
    FC U O St (190, #[pt b1, pt b2, pt b3]) (fun a l => (inB lo hi l).map fun x => (set a x.1, x.2)) :=
  fc_two b1 b2 b3 B off lo hi set ((hU.block _ (lt_of h.x1)).trans h.x1) ((hU.block _ (lt_of h.x2)).trans h.x2) ((hU.block _ (lt_of h.x3)).trans h.x3) (fun q => by have := hO _ q; have := h.l1; omega) (fun q => by have := hO _ q; have := h.l2; omega) (fun q => by have := hO _ q; have := h.l3; omega) hB hst
theorem MkB.at {w w' U : World} {b : Nat} {v : Value} {t : TypeId} (h : MkB w w' b v t) (hU : Below w'.heap.size w' U) : U.heap[b]? = some (.cells #[v] t (0, 0)) := (hU.block _ (lt_of h.x)).trans h.x
theorem MkB.fc {w w' U : World} {b : Nat} {c : UInt8} (h : MkB w w' b (.string ⟨#[c]⟩) 9) (hU : Below w'.heap.size w' U) {σ : Type} {O : Nat → Prop} {St : σ → World → Prop} (hO : ∀ i, O i → i < w.heap.size) : FC U O St (187, #[pt b]) (gMk (c.toNat : Int)) :=
  fc_mark c b (h.at hU) (fun q => by have := hO _ q; have := h.l; omega)
theorem bl_step {a b c : World} (h : Below a.heap.size a b) (k : Below b.heap.size b c) : Below a.heap.size a c := h.trans (k.mono h.size)
abbrev T3 := Int × Int × Int
/-- Three numbers in boxes of their own. -/
structure St3 (H : Nat) (x : T3) (W : World) : Prop where
  a : W.heap[H]? = some (.cells #[.int .i64 x.1] 3 (0, 0))
  b : W.heap[H + 1]? = some (.cells #[.int .i64 x.2.1] 3 (0, 0))
  c : W.heap[H + 2]? = some (.cells #[.int .i64 x.2.2] 3 (0, 0))
  a0 : -1000000000 < x.1 ∧ x.1 < 1000000000
  b0 : -1000000000 < x.2.1 ∧ x.2.1 < 1000000000
  c0 : -1000000000 < x.2.2 ∧ x.2.2 < 1000000000
theorem St3.s1 (H : Nat) : CellSt (St3 H) H 0 (fun x n => (n, x.2)) := by
  intro x W h
  refine ⟨_, _, _, h.a, rfl, fun n W' n0 n1 hx hf => ⟨hx, hf.at h.b (by omega), hf.at h.c (by omega), ⟨n0, n1⟩, h.b0, h.c0⟩⟩
theorem St3.s2 (H : Nat) : CellSt (St3 H) (H + 1) 0 (fun x n => (x.1, n, x.2.2)) := by
  intro x W h
  refine ⟨_, _, _, h.b, rfl, fun n W' n0 n1 hx hf => ⟨hf.at h.a (by omega), hx, hf.at h.c (by omega), h.a0, ⟨n0, n1⟩, h.c0⟩⟩
theorem St3.s3 (H : Nat) : CellSt (St3 H) (H + 2) 0 (fun x n => (x.1, x.2.1, n)) := by
  intro x W h
  refine ⟨_, _, _, h.c, rfl, fun n W' n0 n1 hx hf => ⟨hf.at h.a (by omega), hf.at h.b (by omega), hx, h.a0, h.b0, ⟨n0, n1⟩⟩⟩
def g5 : List (Gd T3) := [fun a l => (inB 0 24 l).map fun x => ((x.1, a.2), x.2), gMk 58, fun a l => (inB 0 59 l).map fun x => ((a.1, x.1, a.2.2), x.2), gMk 58, fun a l => (inB 0 59 l).map fun x => ((a.1, a.2.1, x.1), x.2)]
/-- clockInto. -/
def ckG (l : List Int) : Option (Int × List Int) := (runG g5 (0, 0, 0) l).bind fun x => if 3600 * x.1.1 + 60 * x.1.2.1 + x.1.2.2 ≤ 86400 then some (3600 * x.1.1 + 60 * x.1.2.1 + x.1.2.2, x.2) else none
def ClP (s : ByteArray) (B off : Nat) (W : World) (cs : Array Value) (t : TypeId) (e : Ending) (W' : World) : Prop :=
  ∃ (t' : ByteArray) (n : Int), e = .returned (.tuple #[.string t', .bool (ckG (bl s)).isSome]) ∧ t'.size ≤ s.size ∧ W'.heap[B]? = some (.cells (cs.setIfInBounds off (.int .i64 n)) t (0, 0)) ∧ Fro (fun k => k = B) W W' ∧ (-10000000000000 < n ∧ n < 10000000000000) ∧ (∀ x, ckG (bl s) = some x → bl t' = x.2 ∧ n = x.1)
set_option maxHeartbeats 1000000 in
theorem clock_c (s : ByteArray) (b1 B off : Nat) (W : World) (cs : Array Value) (t : TypeId) (v : Value) (h1 : W.heap[b1]? = some (.cells #[.pointer (some ⟨B, off, none⟩)] 167 (0, 0)))
    (hB : W.heap[B]? = some (.cells cs t (0, 0))) (hv : cs[off]? = some v) (n1 : B ≠ b1) (hs : s.size ≤ maxLen) :
    Calls Tryz.prog 192 #[.string s, pt b1] W (ClP s B off W cs t) := by
  have HH : Hid _ := And.intro h1 (And.intro hB hv)
  clear h1 hB hv
  have H3 : Hid _ := box3' W (.cells #[.int .i64 0] 3) (.cells #[.int .i64 0] 3) (.cells #[.int .i64 0] 3)
  go_enter Tryz.func192, Tryz.ntmps192
  go_wp2_with fail
  obtain ⟨U0, hU0⟩ : ∃ U0, ((W.alloc (.cells #[.int .i64 0] 3)).alloc (.cells #[.int .i64 0] 3)).alloc (.cells #[.int .i64 0] 3) = U0 := ⟨_, rfl⟩
  rw [hU0] at H3 ⊢
  have hz0 : U0.heap.size = W.heap.size + 3 := by rw [← hU0]; simp
  clear hU0
  refine Calls.mono (two_m _ _ _ _) ?_
  rintro e w1 ⟨p1, p2, p3, rfl, h1⟩
  have H1 : Hid _ := And.intro h1 hz0
  clear h1 hz0
  go_wp2_with fail
  refine Calls.mono (mark_m _ _) ?_
  rintro e w2 ⟨p4, rfl, h2⟩
  have H2 : Hid _ := And.intro h2 trivial
  clear h2
  go_wp2_with fail
  refine Calls.mono (two_m _ _ _ _) ?_
  rintro e w3 ⟨p5, p6, p7, rfl, h3⟩
  have H5 : Hid _ := And.intro h3 trivial
  clear h3
  go_wp2_with fail
  refine Calls.mono (mark_m _ _) ?_
  rintro e w4 ⟨p8, rfl, h4⟩
  have H6 : Hid _ := And.intro h4 trivial
  clear h4
  go_wp2_with fail
  refine Calls.mono (two_m _ _ _ _) ?_
  rintro e w5 ⟨p9, p10, p11, rfl, h5⟩
  have H7 : Hid _ := And.intro h5 trivial
  clear h5
  go_wp2_with fail
  obtain ⟨U, hU⟩ : ∃ U, (w5.alloc (.cells #[fnV (190, #[pt p1, pt p2, pt p3]), fnV (187, #[pt p4]), fnV (190, #[pt p5, pt p6, pt p7]), fnV (187, #[pt p8]), fnV (190, #[pt p9, pt p10, pt p11])] 138)) = U := ⟨_, rfl⟩
  rw [hU]
  have u5 : Below w5.heap.size w5 U := by rw [← hU]; exact (Below.refl _ _).alloc (Nat.le_refl _) _
  have hUx : U.heap[w5.heap.size]? = some (.cells #[fnV (190, #[pt p1, pt p2, pt p3]), fnV (187, #[pt p4]), fnV (190, #[pt p5, pt p6, pt p7]), fnV (187, #[pt p8]), fnV (190, #[pt p9, pt p10, pt p11])] 138 (0, 0)) := by rw [← hU]; exact nw_heap _ _
  clear hU
  have u4 := bl_step H7.out.1.bl u5
  have u3 := bl_step H6.out.1.bl u4
  have u2 := bl_step H5.out.1.bl u3
  have u1 := bl_step H2.out.1.bl u2
  have u0 := bl_step H1.out.1.bl u1
  have uW : Below W.heap.size W U := H3.out.2.2.2.trans (u0.mono H3.out.2.2.2.size)
  have sz := H1.out.2
  have s1 := H1.out.1.bl.size
  have s2 := H2.out.1.bl.size
  have s3 := H5.out.1.bl.size
  have s4 := H6.out.1.bl.size
  have s5 := H7.out.1.bl.size
  have hfc : FCs U (fun k => k = W.heap.size ∨ k = W.heap.size + 1 ∨ k = W.heap.size + 2) (St3 W.heap.size) [(190, #[pt p1, pt p2, pt p3]), (187, #[pt p4]), (190, #[pt p5, pt p6, pt p7]), (187, #[pt p8]), (190, #[pt p9, pt p10, pt p11])] g5 :=
    .cons (H1.out.1.fc u1 (by omega) (by simp) _ (St3.s1 W.heap.size)) (.cons (H2.out.1.fc u2 (by omega)) (.cons (H5.out.1.fc u3 (by omega) (by simp) _ (St3.s2 W.heap.size)) (.cons (H6.out.1.fc u4 (by omega)) (.cons (H7.out.1.fc u5 (by omega) (by simp) _ (St3.s3 W.heap.size)) .nil))))
  have hst : St3 W.heap.size (0, 0, 0) U := ⟨(u0.block _ (lt_of H3.out.1)).trans H3.out.1, (u0.block _ (lt_of H3.out.2.1)).trans H3.out.2.1, (u0.block _ (lt_of H3.out.2.2.1)).trans H3.out.2.2.1, by simp, by simp, by simp⟩
  refine Calls.mono (read_p hfc w5.heap.size hUx (by omega) (by simp) U (0, 0, 0) s (Fro.refl _ _) hst hs) ?_
  rintro e w6 ⟨t', b, ⟨hh, mm, ss⟩, rfl, hfr, hst6, hts, hm⟩
  have fW : Fro (fun k => k = B) W w6 := (Fro.below uW).trans' hfr (fun i hi q => by omega)
  have H8 : Hid _ := And.intro hst6 (And.intro fW (And.intro hts hm))
  have bB : w6.heap[B]? = some (.cells cs t (0, 0)) := ((Fro.below (O := fun _ => False) uW).trans' hfr (fun i hi q => by omega)).at HH.out.2.1 (by simp)
  have b1x : w6.heap[b1]? = some (.cells #[.pointer (some ⟨B, off, none⟩)] 167 (0, 0)) := ((Fro.below (O := fun _ => False) uW).trans' hfr (fun i hi q => by omega)).at HH.out.1 (by simp)
  have hnlt : B < W.heap.size := lt_of HH.out.2.1
  obtain ⟨⟨a1, a2⟩, ⟨a3, a4⟩, a5, a6⟩ := And.intro hst6.a0 (And.intro hst6.b0 hst6.c0)
  dsimp only at a1 a2 a3 a4 a5 a6
  have ca := cl1 hst6.a
  have cb := cl1 hst6.b
  have cc := cl1 hst6.c
  have c1 := cl1 b1x
  obtain ⟨cB, fB⟩ := cl_at bB HH.out.2.2
  have H9 : Hid _ := And.intro bB b1x
  clear hst6 fW hts hm bB b1x u0 u1 u2 u3 u4 u5 uW hfc hst hUx hfr H1 H2 H5 H6 H7 H3 sz s1 s2 s3 s4 s5
  go_wp2_with fail
  obtain ⟨N, hN⟩ : ∃ N, 3600 * hh + 60 * mm + ss = N := ⟨_, rfl⟩
  rw [hN]
  have hNb : -10000000000000 < N ∧ N < 10000000000000 := by omega
  have c1' : (w6.setCell ⟨B, off, none⟩ (.int .i64 N)).cell? ⟨b1, 0, none⟩ = some (.pointer (some ⟨B, off, none⟩)) := cl1 ((Below.heap_setCell _ _ _ _ (by simpa using n1.symm)).trans H9.out.2)
  have hx7 := bset (i := off) H9.out.1 (.int .i64 N)
  have cB' := (cl_at hx7 (set_get HH.out.2.2 _)).1
  have f7 : Fro (fun k => k = B) W (w6.setCell ⟨B, off, none⟩ (.int .i64 N)) := H8.out.2.1.set (X := B) (i := off) (.inl rfl) _
  have hR : ∀ y, ckG (bl s) = y → (y = if b = true ∧ N ≤ 86400 then some (N, bl t') else none) := by
    intro y hy
    rw [← hy]
    have hm := H8.out.2.2.2
    unfold ckG
    cases hg : runG g5 (0, 0, 0) (bl s) with
    | none =>
      rw [hg] at hm
      rw [if_neg (by rw [hm.1]; simp)]
      rfl
    | some x =>
      rw [hg] at hm
      obtain ⟨rfl, hx, hbl⟩ := hm
      obtain ⟨x1, x2⟩ := x
      dsimp only at hx
      subst hx
      rw [Option.bind_some]
      dsimp only at *
      rw [hN, hbl]
      simp
  have HR : Hid _ := And.intro hR (And.intro hx7 (And.intro f7 (And.intro hNb H8.out.2.2.1)))
  generalize (w6.setCell ⟨B, off, none⟩ (.int .i64 N)) = W7 at *
  clear hR hx7 f7 hNb ca cb cc c1 cB fB H8 H9 hN
  cases b
  · go_quiet (fail)
    go_wp2_with fail
    go_ret2
    have e1 := HR.out.1 _ rfl
    rw [if_neg (by simp)] at e1
    refine ⟨t', N, by rw [e1]; rfl, HR.out.2.2.2.2, HR.out.2.1, HR.out.2.2.1.drewN _, HR.out.2.2.2.1, fun x hx => ?_⟩
    rw [e1] at hx
    cases hx
  · by_cases hq : N ≤ 86400
    · go_quiet (fail)
      go_wp2_with fail
      go_ret2
      have e1 := HR.out.1 _ rfl
      rw [if_pos (by simp [hq])] at e1
      refine ⟨t', N, by rw [e1]; rfl, HR.out.2.2.2.2, HR.out.2.1, HR.out.2.2.1.drewN _, HR.out.2.2.2.1, fun x hx => ?_⟩
      rw [e1] at hx
      cases hx
      exact ⟨rfl, rfl⟩
    · have hq' : decide (N ≤ 86400) = false := by simpa using hq
      go_quiet (fail)
      go_wp2_with fail
      go_ret2
      have e1 := HR.out.1 _ rfl
      rw [if_neg (by simp [hq])] at e1
      refine ⟨t', N, by rw [e1]; rfl, HR.out.2.2.2.2, HR.out.2.1, HR.out.2.2.1.drewN _, HR.out.2.2.2.1, fun x hx => ?_⟩
      rw [e1] at hx
      cases hx
end Go.Proofs.YtgaegajcejpmdaaGreatDoor.Dt
namespace Go.Proofs.YtgaegajcejpmdaaGreatDoor.Dt
open Go.RowKit
set_option linter.unusedVariables false

abbrev T2 := Int × Int
structure St2 (H : Nat) (x : T2) (W : World) : Prop where
  a : W.heap[H]? = some (.cells #[.int .i64 x.1] 3 (0, 0))
  b : W.heap[H + 1]? = some (.cells #[.int .i64 x.2] 3 (0, 0))
  a0 : -1000000000 < x.1 ∧ x.1 < 1000000000
  b0 : -1000000000 < x.2 ∧ x.2 < 1000000000
theorem St2.s1 (H : Nat) : CellSt (St2 H) H 0 (fun x n => (n, x.2)) := by
  intro x W h
  refine ⟨_, _, _, h.a, rfl, fun n W' n0 n1 hx hf => ⟨hx, hf.at h.b (by omega), ⟨n0, n1⟩, h.b0⟩⟩
theorem St2.s2 (H : Nat) : CellSt (St2 H) (H + 1) 0 (fun x n => (x.1, n)) := by
  intro x W h
  refine ⟨_, _, _, h.b, rfl, fun n W' n0 n1 hx hf => ⟨hf.at h.a (by omega), hx, h.a0, ⟨n0, n1⟩⟩⟩
def g3 : List (Gd T2) := [fun a l => (inB 0 14 l).map fun x => ((x.1, a.2), x.2), gMk 58, fun a l => (inB 0 59 l).map fun x => ((a.1, x.1), x.2)]
/-- zoneInto. -/
def zR (l : List Int) : Option Int := (runG g3 (0, 0) l.tail).bind fun x => if x.2 = [] ∧ 60 * x.1.1 + x.1.2 ≤ 840 then some (60 * x.1.1 + x.1.2) else none
def gZn (a : Mo) (l : List Int) : Option Mo :=
  if l = [] then some a else if l = [90] then some { a with hz := true }
  else (zR l).bind fun z => if l.head? = some 45 then some { a with hz := true, z := -z } else if l.head? = some 43 then some { a with hz := true, z := z } else none
def ZnP (s : ByteArray) (M : Nat) (W : World) (a : Mo) (e : Ending) (W' : World) : Prop :=
  ∃ (a' : Mo) (b : Bool), e = .returned (.tuple #[.string ⟨#[]⟩, .bool b]) ∧ W'.heap[M]? = some (.cells (moC a') 36 (0, 0)) ∧ Fro (fun k => k = M) W W' ∧ (∃ h z, a' = { a with hz := h, z := z }) ∧ (match gZn a (bl s) with | some x => b = true ∧ a' = x | none => b = false)
theorem moC_hz (a : Mo) (h : Bool) : (moC a).setIfInBounds 6 (.bool h) = moC { a with hz := h } := rfl
theorem moC_z (a : Mo) (z : Int) : (moC a).setIfInBounds 7 (.int .i64 z) = moC { a with z := z } := rfl
theorem tl_ne {s : ByteArray} {c : UInt8} (h : bl s ≠ [(c.toNat : Int)]) : (s.toList == [c]) = false := by
  have : ¬ s.toList = [c] := fun q => h (by
    unfold bl
    rw [← Lib.toList_data, q]
    rfl)
  simpa using this
theorem tl_eq1 {s : ByteArray} {c : UInt8} (h : bl s = [(c.toNat : Int)]) : (s.toList == [c]) = true := by
  have h1 : s = ⟨#[c]⟩ := bl_inj (by rw [h]; rfl)
  rw [h1]
  have : (⟨#[c]⟩ : ByteArray).toList = [c] := Lib.toList_data _
  rw [this]
  simp
theorem St2.below {H : Nat} {x : T2} {W U : World} (h : St2 H x W) (hb : Below W.heap.size W U) : St2 H x U := ⟨(hb.block _ (lt_of h.a)).trans h.a, (hb.block _ (lt_of h.b)).trans h.b, h.a0, h.b0⟩
/-- The zone's own whole. -/
theorem zone_w {V0 w1 w2 w3 : World} {p1 p2 p3 p4 p5 p6 p7 H : Nat} (h1 : TwB V0 w1 p1 p2 p3 (some ⟨H, 0, none⟩) 0 14) (h2 : MkB w1 w2 p4 (.string ⟨#[58]⟩) 9) (h3 : TwB w2 w3 p5 p6 p7 (some ⟨H + 1, 0, none⟩) 0 59) (hst : St2 H (0, 0) V0) (hH : H + 2 ≤ V0.heap.size) (r : ByteArray) (hr : r.size ≤ maxLen) :
    Calls Tryz.prog 113 #[.string r, .slice (some ⟨w3.heap.size, 0, none⟩) 3 3] (w3.alloc (.cells #[fnV (190, #[pt p1, pt p2, pt p3]), fnV (187, #[pt p4]), fnV (190, #[pt p5, pt p6, pt p7])] 138)) fun e w6 => ∃ (b : Bool) (hh mm : Int), e = .returned (.bool b) ∧ (Fro (fun k => k = H ∨ k = H + 1) V0 w6 ∧ St2 H (hh, mm) w6 ∧ (b = true → runG g3 (0, 0) (bl r) = some ((hh, mm), [])) ∧ (b = false → ∀ x, runG g3 (0, 0) (bl r) = some x → x.2 ≠ [])) := by
  obtain ⟨U, hU⟩ : ∃ U, (w3.alloc (.cells #[fnV (190, #[pt p1, pt p2, pt p3]), fnV (187, #[pt p4]), fnV (190, #[pt p5, pt p6, pt p7])] 138)) = U := ⟨_, rfl⟩
  rw [hU]
  have u3 : Below w3.heap.size w3 U := by rw [← hU]; exact (Below.refl _ _).alloc (Nat.le_refl _) _
  have hUx : U.heap[w3.heap.size]? = some (.cells #[fnV (190, #[pt p1, pt p2, pt p3]), fnV (187, #[pt p4]), fnV (190, #[pt p5, pt p6, pt p7])] 138 (0, 0)) := by rw [← hU]; exact nw_heap _ _
  clear hU
  have u2 := bl_step h3.bl u3
  have u1 := bl_step h2.bl u2
  have u0 := bl_step h1.bl u1
  have s1 := h1.bl.size
  have s2 := h2.bl.size
  have s3 := h3.bl.size
  have hfc : FCs U (fun k => k = H ∨ k = H + 1) (St2 H) [(190, #[pt p1, pt p2, pt p3]), (187, #[pt p4]), (190, #[pt p5, pt p6, pt p7])] g3 :=
    .cons (h1.fc u1 (by omega) (by simp) _ (St2.s1 H)) (.cons (h2.fc u2 (by omega)) (.cons (h3.fc u3 (by omega) (by simp) _ (St2.s2 H)) .nil))
  refine Calls.mono (whole_p hfc w3.heap.size hUx (by omega) (by simp) U (0, 0) r (Fro.refl _ _) (hst.below u0) hr) ?_
  rintro e w6 ⟨b, ⟨hh, mm⟩, rfl, hfr, hst6, hT, hF⟩
  exact ⟨b, hh, mm, rfl, (Fro.below u0).trans' hfr (fun i hi q => q), hst6, hT, hF⟩
set_option maxHeartbeats 1000000 in
theorem zone_c (s : ByteArray) (b1 M : Nat) (W : World) (a : Mo) (h1 : W.heap[b1]? = some (.cells #[.pointer (some ⟨M, 0, none⟩)] 143 (0, 0))) (hM : W.heap[M]? = some (.cells (moC a) 36 (0, 0))) (n1 : M ≠ b1) (hs : s.size ≤ maxLen) :
    Calls Tryz.prog 194 #[.string s, pt b1] W (ZnP s M W a) := by
  by_cases hs0 : s.size = 0
  · have hq := tl_ee hs0
    have hg : gZn a (bl s) = some a := by unfold gZn; rw [if_pos (bl_nil hs0)]
    have HH : Hid _ := And.intro hM hg
    clear hM hg h1 hs0
    go_enter Tryz.func194, Tryz.ntmps194
    go_wp2_with fail
    go_ret2
    refine ⟨a, true, rfl, HH.out.1, Fro.refl _ _, ⟨a.hz, a.z, rfl⟩, ?_⟩
    rw [HH.out.2]
    exact ⟨rfl, rfl⟩
  have hsp : 0 < s.size := by omega
  have hq0 := tl_nn hsp
  have hne : ¬ bl s = [] := fun q => by have := bl_len s; rw [q] at this; simp at this; omega
  obtain ⟨⟨k0, k1, k2, k3, k4, k5, k6, k7⟩, f0, f1, f2, f3, f4, f5, f6, f7⟩ := blk8 hM
  have c1 := cl1 h1
  have hM1 := bset (i := 6) hM (.bool true)
  rw [moC_hz] at hM1
  have fr1 : Fro (fun k => k = M) W (W.setCell ⟨M, 6, none⟩ (.bool true)) := fro_set W M 6 _
  have h11 : (W.setCell ⟨M, 6, none⟩ (.bool true)).heap[b1]? = some (.cells #[.pointer (some ⟨M, 0, none⟩)] 143 (0, 0)) := (Below.heap_setCell _ _ _ _ (by simpa using n1.symm)).trans h1
  by_cases hz : bl s = [90]
  · have hqz : (s.toList == [90]) = true := tl_eq1 (c := 90) hz
    have hg : gZn a (bl s) = some { a with hz := true } := by unfold gZn; rw [if_neg hne, if_pos hz]
    have HH : Hid _ := And.intro hM1 (And.intro fr1 hg)
    clear hM1 fr1 hg hM h1 hne hz h11
    go_enter Tryz.func194, Tryz.ntmps194
    go_wp2_with fail
    go_ret2
    refine ⟨{ a with hz := true }, true, rfl, HH.out.1, HH.out.2.1, ⟨true, a.z, rfl⟩, ?_⟩
    rw [HH.out.2.2]
    exact ⟨rfl, rfl⟩
  have hqz : (s.toList == [90]) = false := tl_ne (c := 90) hz
  have hg : gZn a (bl s) = (zR (bl s)).bind fun z => if (bl s).head? = some 45 then some { a with hz := true, z := -z } else if (bl s).head? = some 43 then some { a with hz := true, z := z } else none := by unfold gZn; rw [if_neg hne, if_neg hz]
  have hhd := head_get s hsp
  rw [hhd] at hg
  have HG : Hid _ := hg
  have HM1 : Hid _ := And.intro hM1 (And.intro fr1 h11)
  have hl1 : (1 : Int) ≤ (s.size : Int) := by omega
  clear hM1 fr1 hg hM h1 hne hz h11 hhd
  have hmx := hs
  unfold maxLen at hs
  go_enter Tryz.func194, Tryz.ntmps194
  go_wp2_with fail
  have hzW : (W.setCell ⟨M, 6, none⟩ (.bool true)).heap.size = W.heap.size := by simp [World.setCell]
  have hbx := box2 (W.setCell ⟨M, 6, none⟩ (.bool true)) (.cells #[.int .i64 0] 3) (.cells #[.int .i64 0] 3)
  obtain ⟨U0, hU0⟩ : ∃ U0, ((W.setCell ⟨M, 6, none⟩ (.bool true)).alloc (.cells #[.int .i64 0] 3)).alloc (.cells #[.int .i64 0] 3) = U0 := ⟨_, rfl⟩
  have hsU : U0.heap.size = W.heap.size + 2 := by rw [← hU0]; simp
  rw [hU0, hzW] at hbx
  rw [hU0]
  obtain ⟨bx1, bx2, bx3⟩ := hbx
  have hst0 : St2 W.heap.size (0, 0) U0.drew := ⟨bx1, bx2, by simp, by simp⟩
  have hsD : W.heap.size + 2 ≤ U0.drew.heap.size := by show W.heap.size + 2 ≤ U0.heap.size; omega
  have hrs : (s.extract 1 s.size).size ≤ maxLen := by rw [ByteArray.size_extract]; omega
  have xM : U0.drew.heap[M]? = some (.cells (moC { a with hz := true }) 36 (0, 0)) := (bx3.block _ (by rw [← hzW]; exact lt_of HM1.out.1)).trans HM1.out.1
  have xb : U0.drew.heap[b1]? = some (.cells #[.pointer (some ⟨M, 0, none⟩)] 143 (0, 0)) := (bx3.block _ (by rw [← hzW]; exact lt_of HM1.out.2.2)).trans HM1.out.2.2
  have hMlt : M < W.heap.size := by rw [← hzW]; exact lt_of HM1.out.1
  have hblt : b1 < W.heap.size := by rw [← hzW]; exact lt_of HM1.out.2.2
  have frU : Fro (fun k => k = M) W U0.drew := HM1.out.2.1.trans' (Fro.below (O := fun _ => False) (show Below (W.setCell ⟨M, 6, none⟩ (.bool true)).heap.size (W.setCell ⟨M, 6, none⟩ (.bool true)) U0.drew by rw [hzW]; exact bdrewN bx3 1)) (fun _ _ q => q.elim)
  have HZ : Hid _ := And.intro hst0 (And.intro hsD (And.intro hrs (And.intro xM (And.intro xb (And.intro frU (And.intro hMlt hblt))))))
  clear hU0 hsU hzW bx1 bx2 bx3 hst0 hsD hrs xM xb frU hMlt hblt HM1 k0 k1 k2 k3 k4 k5 k6 k7 f0 f1 f2 f3 f4 f5 f6 f7 c1
  go_region_held3 (fun _ => True) (trivial) (first
    | (go_at_call 161; (with_reducible refine Calls.mono (two_m (some ⟨W.heap.size, 0, none⟩) 0 14 _) ?_); rintro e w1 ⟨p1, p2, p3, rfl, h1⟩; have H1 : Hid _ := And.intro h1 trivial; clear h1)
    | (go_at_call 159; (with_reducible refine Calls.mono (mark_m _ _) ?_); rintro e w2 ⟨p4, rfl, h2⟩; have H2 : Hid _ := And.intro h2 trivial; clear h2)
    | (go_at_call 161; (with_reducible refine Calls.mono (two_m (some ⟨W.heap.size + 1, 0, none⟩) 0 59 _) ?_); rintro e w3 ⟨p5, p6, p7, rfl, h3⟩; have H3 : Hid _ := And.intro h3 trivial; clear h3)
    | (go_at_call 113; (refine Calls.mono (zone_w H1.out.1 H2.out.1 H3.out.1 HZ.out.1 HZ.out.2.1 _ HZ.out.2.2.1) ?_); rintro e w6 ⟨b, hh, mm, rfl, h8⟩; have H8 : Hid _ := And.intro h8 trivial; clear h8)
    | fail)
  obtain ⟨hfr, hst, hT, hF⟩ := H8.out.1
  have fr6 : Fro (fun k => k = M) W w6 := HZ.out.2.2.2.2.2.1.trans' hfr (fun i hi q => by omega)
  have x6 : w6.heap[M]? = some (.cells (moC { a with hz := true }) 36 (0, 0)) := hfr.at HZ.out.2.2.2.1 (by have := HZ.out.2.2.2.2.2.2.1; omega)
  have y6 : w6.heap[b1]? = some (.cells #[.pointer (some ⟨M, 0, none⟩)] 143 (0, 0)) := hfr.at HZ.out.2.2.2.2.1 (by have := HZ.out.2.2.2.2.2.2.2; omega)
  obtain ⟨⟨a1, a2⟩, a3, a4⟩ := And.intro hst.a0 hst.b0
  dsimp only at a1 a2 a3 a4
  have ca := cl1 hst.a
  have cb := cl1 hst.b
  have c1 := cl1 y6
  obtain ⟨⟨k0, k1, k2, k3, k4, k5, k6, k7⟩, f0, f1, f2, f3, f4, f5, f6, f7⟩ := blk8 x6
  obtain ⟨N, hN⟩ : ∃ N, 60 * hh + mm = N := ⟨_, rfl⟩
  have hzr : zR (bl s) = if b = true ∧ N ≤ 840 then some N else none := by
    unfold zR
    rw [bl_ext, List.drop_one] at hT hF
    cases b with
    | false =>
      rw [if_neg (by simp)]
      cases hr : runG g3 (0, 0) (bl s).tail with
      | none => rfl
      | some x =>
        rw [Option.bind_some, if_neg (fun q => hF rfl x hr q.1)]
    | true =>
      rw [hT rfl, Option.bind_some]
      dsimp only
      rw [hN]
      simp
  have x7 := bset (i := 7) x6 (.int .i64 N)
  rw [moC_z] at x7
  have y7 : (w6.setCell ⟨M, 7, none⟩ (.int .i64 N)).heap[b1]? = some (.cells #[.pointer (some ⟨M, 0, none⟩)] 143 (0, 0)) := (Below.heap_setCell _ _ _ _ (by simpa using n1.symm)).trans y6
  have fr7 : Fro (fun k => k = M) W (w6.setCell ⟨M, 7, none⟩ (.int .i64 N)) := fr6.set (X := M) (i := 7) (.inl rfl) _
  have HE : Hid _ := And.intro x7 (And.intro y7 (And.intro fr7 hzr))
  have hNb : -100000000000 < N ∧ N < 100000000000 := by omega
  obtain ⟨hNb0, hNb1⟩ := hNb
  have HN : Hid _ := hN
  clear x7 y7 fr7 hzr x6 y6 fr6 hfr hst hT hF H1 H2 H3 H8 HZ
  have hd0 := head_get s hsp
  clear hd0
  have hzr0 : b = false → zR (bl s) = none := fun q => by rw [HE.out.2.2.2, if_neg (by rw [q]; simp)]
  have hzr1 : b = true → 840 < N → zR (bl s) = none := fun q p => by rw [HE.out.2.2.2, if_neg (by omega)]
  have hzr2 : b = true → ¬ 840 < N → zR (bl s) = some N := fun q p => by rw [HE.out.2.2.2, if_pos ⟨q, by omega⟩]
  cases b
  · have HR : Hid _ := hzr0 rfl
    clear hzr0 hzr1 hzr2
    go_wp2_with fail
    go_ret2
    refine ⟨{ a with hz := true, z := N }, false, rfl, HE.out.1, HE.out.2.2.1, ⟨true, N, rfl⟩, ?_⟩
    rw [HG.out, HR.out]
    rfl
  · by_cases h840 : 840 < N
    · have HR : Hid _ := hzr1 rfl h840
      clear hzr0 hzr1 hzr2
      go_wp2_with fail
      go_ret2
      refine ⟨{ a with hz := true, z := N }, false, rfl, HE.out.1, HE.out.2.2.1, ⟨true, N, rfl⟩, ?_⟩
      rw [HG.out, HR.out]
      rfl
    · have HR : Hid _ := hzr2 rfl h840
      clear hzr0 hzr1 hzr2
      by_cases h45 : ((s[0]'hsp).toNat : Int) = 45
      · have hx8 := bset (i := 7) HE.out.1 (.int .i64 (-N))
        rw [moC_z] at hx8
        have f8 := HE.out.2.2.1.set (X := M) (i := 7) (.inl rfl) (.int .i64 (-N))
        have g1 := cl1 HE.out.2.1
        obtain ⟨⟨_, _, _, _, _, _, _, g7⟩, _, _, _, _, _, _, _, t7⟩ := blk8 HE.out.1
        have HX : Hid _ := And.intro hx8 f8
        clear hx8 f8
        go_wp2_with fail
        clear ca cb c1 k0 k1 k2 k3 k4 k5 k6 k7 f0 f1 f2 f3 f4 f5 f6 f7
        generalize (w6.setCell ⟨M, 7, none⟩ (.int .i64 N)) = W7 at *
        go_region
        all_goals
          go_wp2_with fail
          go_ret2
          refine ⟨{ a with hz := true, z := -N }, true, rfl, HX.out.1, HX.out.2.drewN 1, ⟨true, -N, rfl⟩, ?_⟩
          rw [HG.out, HR.out, Option.bind_some, if_pos (by rw [h45])]
          exact ⟨rfl, rfl⟩
      · by_cases h43 : ((s[0]'hsp).toNat : Int) = 43
        · have h45' : (((s[0]'hsp).toNat : Int) == 45) = false := by simpa using h45
          go_wp2_with fail
          go_ret2
          refine ⟨{ a with hz := true, z := N }, true, rfl, HE.out.1, HE.out.2.2.1, ⟨true, N, rfl⟩, ?_⟩
          rw [HG.out, HR.out, Option.bind_some, if_neg (by simpa using h45), if_pos (by rw [h43])]
          exact ⟨rfl, rfl⟩
        · have h45' : (((s[0]'hsp).toNat : Int) == 45) = false := by simpa using h45
          have h43' : (((s[0]'hsp).toNat : Int) == 43) = false := by simpa using h43
          go_wp2_with fail
          go_ret2
          refine ⟨{ a with hz := true, z := N }, false, rfl, HE.out.1, HE.out.2.2.1, ⟨true, N, rfl⟩, ?_⟩
          rw [HG.out, HR.out, Option.bind_some, if_neg (by simpa using h45), if_neg (by simpa using h43)]
end Go.Proofs.YtgaegajcejpmdaaGreatDoor.Dt
