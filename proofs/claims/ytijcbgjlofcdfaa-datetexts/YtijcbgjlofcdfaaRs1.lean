/- The program's closures: part. -/
import Derived.Test.YtijcbgjlofcdfaaRd9
namespace Go.Proofs.Ytijcbgjlofcdfaa
open Go.RowKit
set_option linter.unusedVariables false

abbrev wr (x : Int) : Int := wrap64 x
/-- One number in a box of its own. -/
structure St1 (H : Nat) (x : Int) (W : World) : Prop where
  a : W.heap[H]? = some (.cells #[.int .i64 x] 3 (0, 0))
  a0 : -1000000000 < x ∧ x < 1000000000
theorem St1.s1 (H : Nat) : CellSt (St1 H) H 0 (fun x n => n) := by
  intro x W h
  refine ⟨_, _, _, h.a, rfl, fun n W' n0 n1 hx hf => ⟨hx, ⟨n0, n1⟩⟩⟩
/-- part: a number with that letter. -/
def ptG (c : Int) (l : List Int) : Option (Int × List Int) := if 0 < dk 9 l ∧ (l.drop (dk 9 l)).head? = some c then some (dvl (l.take (dk 9 l)), (l.drop (dk 9 l)).tail) else none
def gP2 (c : Int) : List (Gd Int) := [fun a l => if 0 < dk 9 l then some (dvl (l.take (dk 9 l)), l.drop (dk 9 l)) else none, gMk c]
theorem pt_run (c : Int) (l : List Int) (a : Int) : runG (gP2 c) a l = ptG c l := by
  unfold gP2 ptG
  simp only [runG, gMk]
  by_cases h : 0 < dk 9 l
  · rw [if_pos h, Option.bind_some]
    by_cases h' : (l.drop (dk 9 l)).head? = some c
    · rw [if_pos h', if_pos ⟨h, h'⟩]; rfl
    · rw [if_neg h', if_neg (fun q => h' q.2)]; rfl
  · rw [if_neg h, if_neg (fun q => h q.1)]; rfl
/-- part's own read. -/
theorem part_w {V0 w1 w2 : World} {p1 p2 H : Nat} {c : UInt8} (h1 : MkB V0 w1 p1 (.pointer (some ⟨H, 0, none⟩)) 86) (h2 : MkB w1 w2 p2 (.string ⟨#[c]⟩) 9) (hst : St1 H 0 V0) (hH : H + 1 ≤ V0.heap.size) (r : ByteArray) (hr : r.size ≤ maxLen) :
    Calls Try.prog 65 #[.string r, .slice (some ⟨w2.heap.size, 0, none⟩) 2 2] (w2.alloc (.cells #[fnV (90, #[pt p1]), fnV (74, #[pt p2])] 69)) fun e w6 => ∃ (t' : ByteArray) (b : Bool) (n : Int), e = .returned (.tuple #[.string t', .bool b]) ∧ (Fro (fun k => k = H) V0 w6 ∧ St1 H n w6 ∧ t'.size ≤ r.size ∧ (b = true → ptG (c.toNat : Int) (bl r) = some (n, bl t')) ∧ (b = false → ptG (c.toNat : Int) (bl r) = none)) := by
  obtain ⟨U, hU⟩ : ∃ U, (w2.alloc (.cells #[fnV (90, #[pt p1]), fnV (74, #[pt p2])] 69)) = U := ⟨_, rfl⟩
  rw [hU]
  have u2 : Below w2.heap.size w2 U := by rw [← hU]; exact (Below.refl _ _).alloc (Nat.le_refl _) _
  have hUx : U.heap[w2.heap.size]? = some (.cells #[fnV (90, #[pt p1]), fnV (74, #[pt p2])] 69 (0, 0)) := by rw [← hU]; exact nw_heap _ _
  clear hU
  have u1 := bl_step h2.bl u2
  have u0 := bl_step h1.bl u1
  have s1 := h1.bl.size
  have s2 := h2.bl.size
  have hl1 := h1.l
  have hfc : FCs U (fun k => k = H) (St1 H) [(90, #[pt p1]), (74, #[pt p2])] (gP2 (c.toNat : Int)) :=
    .cons (fc_num (O := fun k => k = H) p1 H 0 _ (h1.at u1) (by omega) rfl (St1.s1 H)) (.cons (h2.fc u2 (by omega)) .nil)
  have hst' : St1 H 0 U := ⟨(u0.block _ (lt_of hst.a)).trans hst.a, hst.a0⟩
  refine Calls.mono (read_p hfc w2.heap.size hUx (by omega) (by simp) U 0 r (Fro.refl _ _) hst' hr) ?_
  rintro e w6 ⟨t', b, n, rfl, hfr, hst6, hts, hm⟩
  rw [pt_run] at hm
  refine ⟨t', b, n, rfl, (Fro.below u0).trans' hfr (fun i hi q => q), hst6, hts, ?_, ?_⟩
  · intro hb
    cases hg : ptG (c.toNat : Int) (bl r) with
    | none => rw [hg] at hm; rw [hm.1] at hb; cases hb
    | some x => rw [hg] at hm; obtain ⟨_, hx, hy⟩ := hm; rw [hx, hy]
  · intro hb
    cases hg : ptG (c.toNat : Int) (bl r) with
    | none => rfl
    | some x => rw [hg] at hm; rw [hm.1] at hb; cases hb
/-- What a call of part gives. -/
def PtP (s : ByteArray) (c : Int) (unit x : Int) (D off : Nat) (W : World) (cs : Array Value) (t : TypeId) (e : Ending) (W' : World) : Prop :=
  ∃ t' : ByteArray, e = .returned (.tuple #[.string t', .bool true]) ∧ t'.size ≤ s.size ∧ Fro (fun k => k = D) W W' ∧ (match ptG c (bl s) with | some y => W'.heap[D]? = some (.cells (cs.setIfInBounds off (.int .i64 (wr (x + y.1 * unit)))) t (0, 0)) ∧ bl t' = y.2 | none => W'.heap[D]? = some (.cells cs t (0, 0)) ∧ t' = s)
set_option maxHeartbeats 1000000 in
theorem part_c (s : ByteArray) (b1 b2 b3 D off : Nat) (c : UInt8) (unit x : Int) (W : World) (cs : Array Value) (t : TypeId) (h1 : W.heap[b1]? = some (.cells #[.string ⟨#[c]⟩] 9 (0, 0))) (h2 : W.heap[b2]? = some (.cells #[.pointer (some ⟨D, off, none⟩)] 86 (0, 0))) (h3 : W.heap[b3]? = some (.cells #[.int .i64 unit] 3 (0, 0)))
    (hD : W.heap[D]? = some (.cells cs t (0, 0))) (hv : cs[off]? = some (.int .i64 x)) (n2 : D ≠ b2) (n3 : D ≠ b3) (u0 : 0 ≤ unit) (u1 : unit ≤ 86400) (hs : s.size ≤ maxLen) :
    Calls Try.prog 84 #[.string s, pt b1, pt b2, pt b3] W (PtP s (c.toNat : Int) unit x D off W cs t) := by
  have HH : Hid _ := And.intro h1 (And.intro h2 (And.intro h3 (And.intro hD hv)))
  have hb1l := lt_of h1
  have hb2l := lt_of h2
  have hb3l := lt_of h3
  have hDl := lt_of hD
  clear h1 h2 h3 hD hv
  have hN := nw_heap W (.cells #[.int .i64 0] 3)
  have hB0 : Below W.heap.size W (W.alloc (.cells #[.int .i64 0] 3)) := (Below.refl _ _).alloc (Nat.le_refl _) _
  have hsU : (W.alloc (.cells #[.int .i64 0] 3)).heap.size = W.heap.size + 1 := by simp
  go_enter Try.func84, Try.ntmps84
  go_wp2_with fail
  generalize (W.alloc (.cells #[.int .i64 0] 3)) = U0 at *
  have hst0 : St1 W.heap.size 0 U0.drew := ⟨hN, by simp⟩
  have hsD : W.heap.size + 1 ≤ U0.drew.heap.size := by show W.heap.size + 1 ≤ U0.heap.size; omega
  have HZ : Hid _ := And.intro hst0 (And.intro hsD (And.intro hB0 (And.intro hs trivial)))
  have g1 : U0.drew.cell? ⟨b1, 0, none⟩ = some (.string ⟨#[c]⟩) := cl1 ((hB0.block _ hb1l).trans HH.out.1)
  clear hst0 hsD hB0 hN hsU
  go_region_held3 (fun X => X.cell? ⟨b1, 0, none⟩ = some (.string ⟨#[c]⟩)) (first | exact g1 | exact g1' | fail) (first
    | (go_at_call 85; (with_reducible refine Calls.mono (mk_num _ _) ?_); rintro e w1 ⟨p1, rfl, l2, x2, b2'⟩; have H1 : Hid _ := And.intro (MkB.mk l2 x2 b2') (HZ.out.2.2.1.trans ((below_drewN 1).trans b2' |>.mono HZ.out.2.2.1.size)); clear l2 x2 b2' g1; have g1 : w1.cell? ⟨b1, 0, none⟩ = some (.string ⟨#[c]⟩) := cl1 ((H1.out.2.block _ hb1l).trans HH.out.1))
    | (go_at_call 58; (with_reducible refine Calls.mono (mark_m _ _) ?_); rintro e w2 ⟨p2, rfl, h2⟩; have H2 : Hid _ := And.intro h2 (H1.out.2.trans (h2.bl.mono H1.out.2.size)); clear h2 g1; have g1 : w2.cell? ⟨b1, 0, none⟩ = some (.string ⟨#[c]⟩) := cl1 ((H2.out.2.block _ hb1l).trans HH.out.1); have g1' : (w2.alloc (.cells #[fnV (90, #[pt p1]), fnV (74, #[pt p2])] 69)).cell? ⟨b1, 0, none⟩ = some (.string ⟨#[c]⟩) := (Below.cell (p := ⟨b1, 0, none⟩) ((Below.refl w2.heap.size w2).alloc (Nat.le_refl _) _) (Nat.lt_of_lt_of_le hb1l H2.out.2.size)).trans g1)
    | (go_at_call 65; (refine Calls.mono (part_w H1.out.1 H2.out.1 HZ.out.1 HZ.out.2.1 _ HZ.out.2.2.2.1) ?_); rintro e w6 ⟨t', b, n, rfl, h8⟩; have H8 : Hid _ := And.intro h8 trivial; clear g1; have g1 : w6.cell? ⟨b1, 0, none⟩ = some (.string ⟨#[c]⟩) := cl1 (h8.1.at (show U0.drew.heap[b1]? = _ from (HZ.out.2.2.1.block _ hb1l).trans HH.out.1) (by omega)); clear h8)
    | fail)
  obtain ⟨hfr, hst, hts, hT, hF⟩ := H8.out.1
  have frW : Fro (fun k => k = W.heap.size) W w6 := (Fro.below (O := fun k => k = W.heap.size) HZ.out.2.2.1).trans (show Fro (fun k => k = W.heap.size) U0 w6 from ⟨hfr.os, hfr.tape, hfr.output, hfr.size, hfr.block⟩)
  have fr6 : Fro (fun k => k = D) W w6 := ⟨frW.os, frW.tape, frW.output, frW.size, fun k hk _ => frW.block k hk (by omega)⟩
  have x6 : w6.heap[D]? = some (.cells cs t (0, 0)) := frW.at HH.out.2.2.2.1 (by omega)
  have y2 := cl1 (frW.at HH.out.2.1 (by omega))
  have y3 := cl1 (frW.at HH.out.2.2.1 (by omega))
  have y1 := cl1 hst.a
  obtain ⟨cD, fD⟩ := cl_at x6 HH.out.2.2.2.2
  obtain ⟨a1, a2⟩ := hst.a0
  have HE : Hid _ := And.intro x6 (And.intro fr6 (And.intro hts (And.intro hT hF)))
  clear hfr frW fr6 x6 hst hts hT hF H1 H2 H8 HZ g1 g1'
  cases b
  · go_wp2_with fail
    go_ret2
    refine ⟨s, rfl, Nat.le_refl _, HE.out.2.1, ?_⟩
    rw [HE.out.2.2.2.2 (by first | rfl | trivial)]
    exact ⟨HE.out.1, rfl⟩
  · have hp : -100000000000000 < n * unit ∧ n * unit < 100000000000000 := by
      have p1 : n * unit ≤ 999999999 * unit := Int.mul_le_mul_of_nonneg_right (by omega) u0
      have p2 : -999999999 * unit ≤ n * unit := Int.mul_le_mul_of_nonneg_right (by omega) u0
      omega
    obtain ⟨hp0, hp1⟩ := hp
    have x7 := bset (i := off) HE.out.1 (.int .i64 (wr (x + n * unit)))
    have f7 := HE.out.2.1.set (X := D) (i := off) (.inl rfl) (.int .i64 (wr (x + n * unit)))
    have HX : Hid _ := And.intro x7 f7
    clear x7 f7
    go_wp2_with fail
    go_region
    all_goals
      go_wp2_with fail
      go_ret2
      refine ⟨t', rfl, HE.out.2.2.1, HX.out.2.drewN 1, ?_⟩
      rw [HE.out.2.2.2.1 (by first | rfl | trivial)]
      exact ⟨HX.out.1, rfl⟩
end Go.Proofs.Ytijcbgjlofcdfaa
