/- Joined: HDtRs1, HDtRs2. -/
import Derived.Test.YtgaegajcejpmdaaGreatDoorHDtRd9
namespace Go.Proofs.YtgaegajcejpmdaaGreatDoor.Dt
open Go.RowKit
set_option linter.unusedVariables false

abbrev wr (x : Int) : Int := wrap64 x
/-- One number in a box of its own. -/
structure St1 (H : Nat) (x : Int) (W : World) : Prop where
  a : W.heap[H]? = some (.cells #[.int .i64 x] 3 (0, 0))
  a0 : -1000000000 < x ∧ x < 1000000000
theorem St1.s1 (H : Nat) : CellSt (St1 H) H 0 (fun x n => n) := by
  intro x W h
  refine ⟨_, _, _, h.a, rfl, fun n W' n0 n1 hx hf => ⟨hx, ⟨n0, n1⟩⟩⟩
/-- part: a number with that letter. -/
def ptG (c : Int) (l : List Int) : Option (Int × List Int) := if 0 < dk 9 l ∧ (l.drop (dk 9 l)).head? = some c then some (dvl (l.take (dk 9 l)), (l.drop (dk 9 l)).tail) else none
def gP2 (c : Int) : List (Gd Int) := [fun a l => if 0 < dk 9 l then some (dvl (l.take (dk 9 l)), l.drop (dk 9 l)) else none, gMk c]
theorem pt_run (c : Int) (l : List Int) (a : Int) : runG (gP2 c) a l = ptG c l := by
  unfold gP2 ptG
  simp only [runG, gMk]
  by_cases h : 0 < dk 9 l
  · rw [if_pos h, Option.bind_some]
    by_cases h' : (l.drop (dk 9 l)).head? = some c
    · rw [if_pos h', if_pos ⟨h, h'⟩]; rfl
    · rw [if_neg h', if_neg (fun q => h' q.2)]; rfl
  · rw [if_neg h, if_neg (fun q => h q.1)]; rfl
/-- part's own read. -/
theorem part_w {V0 w1 w2 : World} {p1 p2 H : Nat} {c : UInt8} (h1 : MkB V0 w1 p1 (.pointer (some ⟨H, 0, none⟩)) 167) (h2 : MkB w1 w2 p2 (.string ⟨#[c]⟩) 9) (hst : St1 H 0 V0) (hH : H + 1 ≤ V0.heap.size) (r : ByteArray) (hr : r.size ≤ maxLen) :
    Calls Tryz.prog 154 #[.string r, .slice (some ⟨w2.heap.size, 0, none⟩) 2 2] (w2.alloc (.cells #[fnV (209, #[pt p1]), fnV (187, #[pt p2])] 138)) fun e w6 => ∃ (t' : ByteArray) (b : Bool) (n : Int), e = .returned (.tuple #[.string t', .bool b]) ∧ (Fro (fun k => k = H) V0 w6 ∧ St1 H n w6 ∧ t'.size ≤ r.size ∧ (b = true → ptG (c.toNat : Int) (bl r) = some (n, bl t')) ∧ (b = false → ptG (c.toNat : Int) (bl r) = none)) := by
  obtain ⟨U, hU⟩ : ∃ U, (w2.alloc (.cells #[fnV (209, #[pt p1]), fnV (187, #[pt p2])] 138)) = U := ⟨_, rfl⟩
  rw [hU]
  have u2 : Below w2.heap.size w2 U := by rw [← hU]; exact (Below.refl _ _).alloc (Nat.le_refl _) _
  have hUx : U.heap[w2.heap.size]? = some (.cells #[fnV (209, #[pt p1]), fnV (187, #[pt p2])] 138 (0, 0)) := by rw [← hU]; exact nw_heap _ _
  clear hU
  have u1 := bl_step h2.bl u2
  have u0 := bl_step h1.bl u1
  have s1 := h1.bl.size
  have s2 := h2.bl.size
  have hl1 := h1.l
  have hfc : FCs U (fun k => k = H) (St1 H) [(209, #[pt p1]), (187, #[pt p2])] (gP2 (c.toNat : Int)) :=
    .cons (fc_num (O := fun k => k = H) p1 H 0 _ (h1.at u1) (by omega) rfl (St1.s1 H)) (.cons (h2.fc u2 (by omega)) .nil)
  have hst' : St1 H 0 U := ⟨(u0.block _ (lt_of hst.a)).trans hst.a, hst.a0⟩
  refine Calls.mono (read_p hfc w2.heap.size hUx (by omega) (by simp) U 0 r (Fro.refl _ _) hst' hr) ?_
  rintro e w6 ⟨t', b, n, rfl, hfr, hst6, hts, hm⟩
  rw [pt_run] at hm
  refine ⟨t', b, n, rfl, (Fro.below u0).trans' hfr (fun i hi q => q), hst6, hts, ?_, ?_⟩
  · intro hb
    cases hg : ptG (c.toNat : Int) (bl r) with
    | none => rw [hg] at hm; rw [hm.1] at hb; cases hb
    | some x => rw [hg] at hm; obtain ⟨_, hx, hy⟩ := hm; rw [hx, hy]
  · intro hb
    cases hg : ptG (c.toNat : Int) (bl r) with
    | none => rfl
    | some x => rw [hg] at hm; rw [hm.1] at hb; cases hb
/-- What a call of part gives. -/
def PtP (s : ByteArray) (c : Int) (unit x : Int) (D off : Nat) (W : World) (cs : Array Value) (t : TypeId) (e : Ending) (W' : World) : Prop :=
  ∃ t' : ByteArray, e = .returned (.tuple #[.string t', .bool true]) ∧ t'.size ≤ s.size ∧ Fro (fun k => k = D) W W' ∧ (match ptG c (bl s) with | some y => W'.heap[D]? = some (.cells (cs.setIfInBounds off (.int .i64 (wr (x + y.1 * unit)))) t (0, 0)) ∧ bl t' = y.2 | none => W'.heap[D]? = some (.cells cs t (0, 0)) ∧ t' = s)
set_option maxHeartbeats 1000000 in
theorem part_c (s : ByteArray) (b1 b2 b3 D off : Nat) (c : UInt8) (unit x : Int) (W : World) (cs : Array Value) (t : TypeId) (h1 : W.heap[b1]? = some (.cells #[.string ⟨#[c]⟩] 9 (0, 0))) (h2 : W.heap[b2]? = some (.cells #[.pointer (some ⟨D, off, none⟩)] 167 (0, 0))) (h3 : W.heap[b3]? = some (.cells #[.int .i64 unit] 3 (0, 0)))
    (hD : W.heap[D]? = some (.cells cs t (0, 0))) (hv : cs[off]? = some (.int .i64 x)) (n2 : D ≠ b2) (n3 : D ≠ b3) (u0 : 0 ≤ unit) (u1 : unit ≤ 86400) (hs : s.size ≤ maxLen) :
    Calls Tryz.prog 184 #[.string s, pt b1, pt b2, pt b3] W (PtP s (c.toNat : Int) unit x D off W cs t) := by
  have HH : Hid _ := And.intro h1 (And.intro h2 (And.intro h3 (And.intro hD hv)))
  have hb1l := lt_of h1
  have hb2l := lt_of h2
  have hb3l := lt_of h3
  have hDl := lt_of hD
  clear h1 h2 h3 hD hv
  have hN := nw_heap W (.cells #[.int .i64 0] 3)
  have hB0 : Below W.heap.size W (W.alloc (.cells #[.int .i64 0] 3)) := (Below.refl _ _).alloc (Nat.le_refl _) _
  have hsU : (W.alloc (.cells #[.int .i64 0] 3)).heap.size = W.heap.size + 1 := by simp
  go_enter Tryz.func184, Tryz.ntmps184
  go_wp2_with fail
  generalize (W.alloc (.cells #[.int .i64 0] 3)) = U0 at *
  have hst0 : St1 W.heap.size 0 U0.drew := ⟨hN, by simp⟩
  have hsD : W.heap.size + 1 ≤ U0.drew.heap.size := by show W.heap.size + 1 ≤ U0.heap.size; omega
  have HZ : Hid _ := And.intro hst0 (And.intro hsD (And.intro hB0 (And.intro hs trivial)))
  have g1 : U0.drew.cell? ⟨b1, 0, none⟩ = some (.string ⟨#[c]⟩) := cl1 ((hB0.block _ hb1l).trans HH.out.1)
  clear hst0 hsD hB0 hN hsU
  go_region_held3 (fun X => X.cell? ⟨b1, 0, none⟩ = some (.string ⟨#[c]⟩)) (first | exact g1 | exact g1' | fail) (first
    | (go_at_call 185; (with_reducible refine Calls.mono (mk_num _ _) ?_); rintro e w1 ⟨p1, rfl, l2, x2, b2'⟩; have H1 : Hid _ := And.intro (MkB.mk l2 x2 b2') (HZ.out.2.2.1.trans ((below_drewN 1).trans b2' |>.mono HZ.out.2.2.1.size)); clear l2 x2 b2' g1; have g1 : w1.cell? ⟨b1, 0, none⟩ = some (.string ⟨#[c]⟩) := cl1 ((H1.out.2.block _ hb1l).trans HH.out.1))
    | (go_at_call 159; (with_reducible refine Calls.mono (mark_m _ _) ?_); rintro e w2 ⟨p2, rfl, h2⟩; have H2 : Hid _ := And.intro h2 (H1.out.2.trans (h2.bl.mono H1.out.2.size)); clear h2 g1; have g1 : w2.cell? ⟨b1, 0, none⟩ = some (.string ⟨#[c]⟩) := cl1 ((H2.out.2.block _ hb1l).trans HH.out.1); have g1' : (w2.alloc (.cells #[fnV (209, #[pt p1]), fnV (187, #[pt p2])] 138)).cell? ⟨b1, 0, none⟩ = some (.string ⟨#[c]⟩) := (Below.cell (p := ⟨b1, 0, none⟩) ((Below.refl w2.heap.size w2).alloc (Nat.le_refl _) _) (Nat.lt_of_lt_of_le hb1l H2.out.2.size)).trans g1)
    | (go_at_call 154; (refine Calls.mono (part_w H1.out.1 H2.out.1 HZ.out.1 HZ.out.2.1 _ HZ.out.2.2.2.1) ?_); rintro e w6 ⟨t', b, n, rfl, h8⟩; have H8 : Hid _ := And.intro h8 trivial; clear g1; have g1 : w6.cell? ⟨b1, 0, none⟩ = some (.string ⟨#[c]⟩) := cl1 (h8.1.at (show U0.drew.heap[b1]? = _ from (HZ.out.2.2.1.block _ hb1l).trans HH.out.1) (by omega)); clear h8)
    | fail)
  obtain ⟨hfr, hst, hts, hT, hF⟩ := H8.out.1
  have frW : Fro (fun k => k = W.heap.size) W w6 := (Fro.below (O := fun k => k = W.heap.size) HZ.out.2.2.1).trans (show Fro (fun k => k = W.heap.size) U0 w6 from ⟨hfr.os, hfr.tape, hfr.output, hfr.size, hfr.block⟩)
  have fr6 : Fro (fun k => k = D) W w6 := ⟨frW.os, frW.tape, frW.output, frW.size, fun k hk _ => frW.block k hk (by omega)⟩
  have x6 : w6.heap[D]? = some (.cells cs t (0, 0)) := frW.at HH.out.2.2.2.1 (by omega)
  have y2 := cl1 (frW.at HH.out.2.1 (by omega))
  have y3 := cl1 (frW.at HH.out.2.2.1 (by omega))
  have y1 := cl1 hst.a
  obtain ⟨cD, fD⟩ := cl_at x6 HH.out.2.2.2.2
  obtain ⟨a1, a2⟩ := hst.a0
  have HE : Hid _ := And.intro x6 (And.intro fr6 (And.intro hts (And.intro hT hF)))
  clear hfr frW fr6 x6 hst hts hT hF H1 H2 H8 HZ g1 g1'
  cases b
  · go_wp2_with fail
    go_ret2
    refine ⟨s, rfl, Nat.le_refl _, HE.out.2.1, ?_⟩
    rw [HE.out.2.2.2.2 (by first | rfl | trivial)]
    exact ⟨HE.out.1, rfl⟩
  · have hp : -100000000000000 < n * unit ∧ n * unit < 100000000000000 := by
      have p1 : n * unit ≤ 999999999 * unit := Int.mul_le_mul_of_nonneg_right (by omega) u0
      have p2 : -999999999 * unit ≤ n * unit := Int.mul_le_mul_of_nonneg_right (by omega) u0
      omega
    obtain ⟨hp0, hp1⟩ := hp
    have x7 := bset (i := off) HE.out.1 (.int .i64 (wr (x + n * unit)))
    have f7 := HE.out.2.1.set (X := D) (i := off) (.inl rfl) (.int .i64 (wr (x + n * unit)))
    have HX : Hid _ := And.intro x7 f7
    clear x7 f7
    go_wp2_with fail
    go_region
    all_goals
      go_wp2_with fail
      go_ret2
      refine ⟨t', rfl, HE.out.2.2.1, HX.out.2.drewN 1, ?_⟩
      rw [HE.out.2.2.2.1 (by first | rfl | trivial)]
      exact ⟨HX.out.1, rfl⟩
end Go.Proofs.YtgaegajcejpmdaaGreatDoor.Dt
namespace Go.Proofs.YtgaegajcejpmdaaGreatDoor.Dt
open Go.RowKit
set_option linter.unusedVariables false

theorem en_part : ∀ args w, (callFunc 184 args).run Tryz.prog w = .ok (.enter 184 args) w := enters_of Tryz.func184 (by kernel_rfl) rfl
theorem en_last : ∀ args w, (callFunc 186 args).run Tryz.prog w = .ok (.enter 186 args) w := enters_of Tryz.func186 (by kernel_rfl) rfl
theorem en_span : ∀ args w, (callFunc 155 args).run Tryz.prog w = .ok (.enter 155 args) w := enters_of Tryz.func155 (by kernel_rfl) rfl
structure StS (D : Nat) (p : Sp) (W : World) : Prop where
  x : W.heap[D]? = some (.cells (spC p) 38 (0, 0))
def gPo (c unit : Int) : Gd Sp := fun p l => some (match ptG c l with | some y => ({ p with o := wr (p.o + y.1 * unit) }, y.2) | none => (p, l))
def gPs (c unit : Int) : Gd Sp := fun p l => some (match ptG c l with | some y => ({ p with s := wr (p.s + y.1 * unit) }, y.2) | none => (p, l))
theorem fc_po {U : World} {D b1 b2 b3 : Nat} {c : UInt8} {unit : Int} (h1 : U.heap[b1]? = some (.cells #[.string ⟨#[c]⟩] 9 (0, 0))) (h2 : U.heap[b2]? = some (.cells #[.pointer (some ⟨D, 0, none⟩)] 167 (0, 0))) (h3 : U.heap[b3]? = some (.cells #[.int .i64 unit] 3 (0, 0))) (n1 : D ≠ b1) (n2 : D ≠ b2) (n3 : D ≠ b3) (u0 : 0 ≤ unit) (u1 : unit ≤ 86400) : FC U (fun k => k = D) (StS D) (184, #[pt b1, pt b2, pt b3]) (gPo (c.toNat : Int) unit) := by
  refine ⟨en_part, fun W p s hW hp hs => ?_⟩
  refine Calls.mono (part_c s b1 b2 b3 D 0 c unit p.o W (spC p) 38 (hW.at h1 (fun q => n1 q.symm)) (hW.at h2 (fun q => n2 q.symm)) (hW.at h3 (fun q => n3 q.symm)) hp.x rfl n2 n3 u0 u1 hs) ?_
  rintro e w' ⟨t', rfl, hts, hf, hm⟩
  unfold gPo
  cases hg : ptG (c.toNat : Int) (bl s) with
  | none =>
    rw [hg] at hm
    exact ⟨t', true, p, rfl, fro_in hW hf rfl, ⟨hm.1⟩, hts, rfl, rfl, by rw [hm.2]⟩
  | some y =>
    rw [hg] at hm
    exact ⟨t', true, { p with o := wr (p.o + y.1 * unit) }, rfl, fro_in hW hf rfl, ⟨hm.1⟩, hts, rfl, rfl, hm.2⟩
theorem fc_ps {U : World} {D b1 b2 b3 : Nat} {c : UInt8} {unit : Int} (h1 : U.heap[b1]? = some (.cells #[.string ⟨#[c]⟩] 9 (0, 0))) (h2 : U.heap[b2]? = some (.cells #[.pointer (some ⟨D, 1, none⟩)] 167 (0, 0))) (h3 : U.heap[b3]? = some (.cells #[.int .i64 unit] 3 (0, 0))) (n1 : D ≠ b1) (n2 : D ≠ b2) (n3 : D ≠ b3) (u0 : 0 ≤ unit) (u1 : unit ≤ 86400) : FC U (fun k => k = D) (StS D) (184, #[pt b1, pt b2, pt b3]) (gPs (c.toNat : Int) unit) := by
  refine ⟨en_part, fun W p s hW hp hs => ?_⟩
  refine Calls.mono (part_c s b1 b2 b3 D 1 c unit p.s W (spC p) 38 (hW.at h1 (fun q => n1 q.symm)) (hW.at h2 (fun q => n2 q.symm)) (hW.at h3 (fun q => n3 q.symm)) hp.x rfl n2 n3 u0 u1 hs) ?_
  rintro e w' ⟨t', rfl, hts, hf, hm⟩
  unfold gPs
  cases hg : ptG (c.toNat : Int) (bl s) with
  | none =>
    rw [hg] at hm
    exact ⟨t', true, p, rfl, fro_in hW hf rfl, ⟨hm.1⟩, hts, rfl, rfl, by rw [hm.2]⟩
  | some y =>
    rw [hg] at hm
    exact ⟨t', true, { p with s := wr (p.s + y.1 * unit) }, rfl, fro_in hW hf rfl, ⟨hm.1⟩, hts, rfl, rfl, hm.2⟩
/-! The makers. -/
structure PtB (w w' : World) (b1 b2 b3 : Nat) (v : ByteArray) (p : Option Addr) (unit : Int) : Prop where
  l1 : w.heap.size ≤ b1
  l2 : w.heap.size ≤ b2
  l3 : w.heap.size ≤ b3
  x1 : w'.heap[b1]? = some (.cells #[.string v] 9 (0, 0))
  x2 : w'.heap[b2]? = some (.cells #[.pointer p] 167 (0, 0))
  x3 : w'.heap[b3]? = some (.cells #[.int .i64 unit] 3 (0, 0))
  bl : Below w.heap.size w w'
theorem part_m (v : ByteArray) (unit : Int) (p : Option Addr) (w : World) : Calls Tryz.prog 157 #[.string v, .int .i64 unit, .pointer p] w fun e w' => ∃ b1 b2 b3, e = .returned (fnV (184, #[pt b1, pt b2, pt b3])) ∧ PtB w w' b1 b2 b3 v p unit := by
  have HB : Hid _ := box3' w (.cells #[.string v] 9) (.cells #[.int .i64 unit] 3) (.cells #[.pointer p] 167)
  go_enter Tryz.func157, Tryz.ntmps157
  go_wp2_with fail
  go_ret
  exact ⟨w.heap.size, w.heap.size + 1 + 1, w.heap.size + 1, rfl, Nat.le_refl _, by omega, by omega, HB.out.1, HB.out.2.2.1, HB.out.2.1, HB.out.2.2.2⟩
theorem last_m (p : Option Addr) (w : World) : Calls Tryz.prog 158 #[.pointer p] w fun e w' => ∃ b, e = .returned (fnV (186, #[pt b])) ∧ MkB w w' b (.pointer p) 140 := by
  go_enter Tryz.func158, Tryz.ntmps158
  go_wp2_with fail
  go_ret
  exact ⟨w.heap.size, rfl, Nat.le_refl _, nw_heap _ _, (Below.refl _ _).alloc (Nat.le_refl _) _⟩
theorem span_m (p : Option Addr) (w : World) : Calls Tryz.prog 114 #[.pointer p] w fun e w' => ∃ b, e = .returned (fnV (155, #[pt b])) ∧ MkB w w' b (.pointer p) 140 := by
  go_enter Tryz.func114, Tryz.ntmps114
  go_wp2_with fail
  go_ret
  exact ⟨w.heap.size, rfl, Nat.le_refl _, nw_heap _ _, (Below.refl _ _).alloc (Nat.le_refl _) _⟩
theorem PtB.fo {w w' U : World} {b1 b2 b3 D : Nat} {c : UInt8} {unit : Int} (h : PtB w w' b1 b2 b3 ⟨#[c]⟩ (some ⟨D, 0, none⟩) unit) (hU : Below w'.heap.size w' U) (hD : D < w.heap.size) (u0 : 0 ≤ unit) (u1 : unit ≤ 86400) : FC U (fun k => k = D) (StS D) (184, #[pt b1, pt b2, pt b3]) (gPo (c.toNat : Int) unit) :=
  fc_po ((hU.block _ (lt_of h.x1)).trans h.x1) ((hU.block _ (lt_of h.x2)).trans h.x2) ((hU.block _ (lt_of h.x3)).trans h.x3) (by have := h.l1; omega) (by have := h.l2; omega) (by have := h.l3; omega) u0 u1
theorem PtB.fs {w w' U : World} {b1 b2 b3 D : Nat} {c : UInt8} {unit : Int} (h : PtB w w' b1 b2 b3 ⟨#[c]⟩ (some ⟨D, 1, none⟩) unit) (hU : Below w'.heap.size w' U) (hD : D < w.heap.size) (u0 : 0 ≤ unit) (u1 : unit ≤ 86400) : FC U (fun k => k = D) (StS D) (184, #[pt b1, pt b2, pt b3]) (gPs (c.toNat : Int) unit) :=
  fc_ps ((hU.block _ (lt_of h.x1)).trans h.x1) ((hU.block _ (lt_of h.x2)).trans h.x2) ((hU.block _ (lt_of h.x3)).trans h.x3) (by have := h.l1; omega) (by have := h.l2; omega) (by have := h.l3; omega) u0 u1
/-! lastPart. -/
structure StL (H D : Nat) (x : Int × Sp) (W : World) : Prop where
  a : W.heap[H]? = some (.cells #[.int .i64 x.1] 3 (0, 0))
  d : W.heap[D]? = some (.cells (spC x.2) 38 (0, 0))
  ne : H ≠ D
  a0 : -1000000000 < x.1 ∧ x.1 < 1000000000
theorem StL.s1 (H D : Nat) : CellSt (StL H D) H 0 (fun x n => (n, x.2)) := by
  intro x W h
  refine ⟨_, _, _, h.a, rfl, fun n W' n0 n1 hx hf => ⟨hx, hf.at h.d (fun q => h.ne q.symm), h.ne, ⟨n0, n1⟩⟩⟩
theorem StL.s2 (H D : Nat) : CellSt (StL H D) D 2 (fun x n => (x.1, { x.2 with n := n })) := by
  intro x W h
  refine ⟨_, _, _, h.d, rfl, fun n W' n0 n1 hx hf => ⟨hf.at h.a (fun q => h.ne q), hx, h.ne, h.a0⟩⟩
def gL3 : List (Gd (Int × Sp)) := [fun a l => if 0 < dk 9 l then some ((dvl (l.take (dk 9 l)), a.2), l.drop (dk 9 l)) else none, fun a l => (frG l).map fun x => (match x.1 with | some n => (a.1, { a.2 with n := n }) | none => a, x.2), gMk 83]
theorem last_w {V0 w1 w2 w3 : World} {p1 p2 p3 H D : Nat} {p : Sp} (h1 : MkB V0 w1 p1 (.pointer (some ⟨H, 0, none⟩)) 167) (h2 : MkB w1 w2 p2 (.pointer (some ⟨D, 2, none⟩)) 167) (h3 : MkB w2 w3 p3 (.string ⟨#[83]⟩) 9) (hst : StL H D (0, p) V0) (r : ByteArray) (hr : r.size ≤ maxLen) :
    Calls Tryz.prog 154 #[.string r, .slice (some ⟨w3.heap.size, 0, none⟩) 3 3] (w3.alloc (.cells #[fnV (209, #[pt p1]), fnV (193, #[pt p2]), fnV (187, #[pt p3])] 138)) fun e w6 => ∃ (t' : ByteArray) (b : Bool) (n : Int) (p' : Sp), e = .returned (.tuple #[.string t', .bool b]) ∧ (Fro (fun k => k = H ∨ k = D) V0 w6 ∧ StL H D (n, p') w6 ∧ t'.size ≤ r.size ∧ (b = true → runG gL3 (0, p) (bl r) = some ((n, p'), bl t')) ∧ (b = false → runG gL3 (0, p) (bl r) = none)) := by
  obtain ⟨U, hU⟩ : ∃ U, (w3.alloc (.cells #[fnV (209, #[pt p1]), fnV (193, #[pt p2]), fnV (187, #[pt p3])] 138)) = U := ⟨_, rfl⟩
  rw [hU]
  have u3 : Below w3.heap.size w3 U := by rw [← hU]; exact (Below.refl _ _).alloc (Nat.le_refl _) _
  have hUx : U.heap[w3.heap.size]? = some (.cells #[fnV (209, #[pt p1]), fnV (193, #[pt p2]), fnV (187, #[pt p3])] 138 (0, 0)) := by rw [← hU]; exact nw_heap _ _
  clear hU
  have u2 := bl_step h3.bl u3
  have u1 := bl_step h2.bl u2
  have u0 := bl_step h1.bl u1
  have s1 := h1.bl.size
  have s2 := h2.bl.size
  have s3 := h3.bl.size
  have hl1 := h1.l
  have hl2 := h2.l
  have hHl := lt_of hst.a
  have hDl := lt_of hst.d
  have hfc : FCs U (fun k => k = H ∨ k = D) (StL H D) [(209, #[pt p1]), (193, #[pt p2]), (187, #[pt p3])] gL3 :=
    .cons (fc_num (O := fun k => k = H ∨ k = D) p1 H 0 _ (h1.at u1) (by omega) (.inl rfl) (StL.s1 H D)) (.cons (fc_frac (O := fun k => k = H ∨ k = D) p2 D 2 _ (h2.at u2) (by omega) (.inr rfl) (StL.s2 H D) (fun a W ha W' cs t v hc hv hx hf => by
      rw [set_same hv] at hx
      exact ⟨hf.at ha.a (fun q => ha.ne q), by rw [hx, ← hc]; exact ha.d, ha.ne, ha.a0⟩)) (.cons (h3.fc u3 (by omega)) .nil))
  have hst' : StL H D (0, p) U := ⟨(u0.block _ (lt_of hst.a)).trans hst.a, (u0.block _ (lt_of hst.d)).trans hst.d, hst.ne, hst.a0⟩
  refine Calls.mono (read_p hfc w3.heap.size hUx (by omega) (by simp) U (0, p) r (Fro.refl _ _) hst' hr) ?_
  rintro e w6 ⟨t', b, ⟨n, p'⟩, rfl, hfr, hst6, hts, hm⟩
  refine ⟨t', b, n, p', rfl, (Fro.below u0).trans' hfr (fun i hi q => q), hst6, hts, ?_, ?_⟩
  · intro hb
    cases hg : runG gL3 (0, p) (bl r) with
    | none => rw [hg] at hm; rw [hm.1] at hb; cases hb
    | some x => rw [hg] at hm; obtain ⟨_, hx, hy⟩ := hm; rw [hx, hy]
  · intro hb
    cases hg : runG gL3 (0, p) (bl r) with
    | none => rfl
    | some x => rw [hg] at hm; rw [hm.1] at hb; cases hb
/-- lastPart. -/
def lpG : Gd Sp := fun p l => if l = [] then some (p, []) else (runG gL3 (0, p) l).map fun x => ({ x.1.2 with s := wr (x.1.2.s + x.1.1) }, x.2)
def LpP (s : ByteArray) (D : Nat) (p : Sp) (W : World) (e : Ending) (W' : World) : Prop :=
  ∃ (t' : ByteArray) (b : Bool) (p' : Sp), e = .returned (.tuple #[.string t', .bool b]) ∧ t'.size ≤ s.size ∧ Fro (fun k => k = D) W W' ∧ W'.heap[D]? = some (.cells (spC p') 38 (0, 0)) ∧ (match lpG p (bl s) with | some x => b = true ∧ p' = x.1 ∧ bl t' = x.2 | none => b = false)
set_option maxHeartbeats 1000000 in
theorem last_c (s : ByteArray) (b1 D : Nat) (p : Sp) (W : World) (h1 : W.heap[b1]? = some (.cells #[.pointer (some ⟨D, 0, none⟩)] 140 (0, 0))) (hD : W.heap[D]? = some (.cells (spC p) 38 (0, 0))) (n1 : D ≠ b1) (hs : s.size ≤ maxLen) :
    Calls Tryz.prog 186 #[.string s, pt b1] W (LpP s D p W) := by
  by_cases hs0 : s.size = 0
  · have hq := tl_ee hs0
    have hg : lpG p (bl s) = some (p, []) := by unfold lpG; rw [if_pos (bl_nil hs0)]
    have HH : Hid _ := And.intro hD hg
    clear hD hg h1 hs0
    go_enter Tryz.func186, Tryz.ntmps186
    go_wp2_with fail
    go_ret2
    refine ⟨⟨#[]⟩, true, p, rfl, Nat.zero_le _, Fro.refl _ _, HH.out.1, ?_⟩
    rw [HH.out.2]
    exact ⟨rfl, rfl, rfl⟩
  have hsp : 0 < s.size := by omega
  have hq0 := tl_nn hsp
  have hne : ¬ bl s = [] := fun q => by have := bl_len s; rw [q] at this; simp at this; omega
  have hg : lpG p (bl s) = (runG gL3 (0, p) (bl s)).map fun x => ({ x.1.2 with s := wr (x.1.2.s + x.1.1) }, x.2) := by unfold lpG; rw [if_neg hne]
  have HH : Hid _ := And.intro h1 (And.intro hD hg)
  have hb1l := lt_of h1
  have hDl := lt_of hD
  clear h1 hD hg hne
  have hN := nw_heap W (.cells #[.int .i64 0] 3)
  have hB0 : Below W.heap.size W (W.alloc (.cells #[.int .i64 0] 3)) := (Below.refl _ _).alloc (Nat.le_refl _) _
  have hsU : (W.alloc (.cells #[.int .i64 0] 3)).heap.size = W.heap.size + 1 := by simp
  go_enter Tryz.func186, Tryz.ntmps186
  go_wp2_with fail
  generalize (W.alloc (.cells #[.int .i64 0] 3)) = U0 at *
  have hst0 : StL W.heap.size D (0, p) U0.drew := ⟨hN, (hB0.block _ hDl).trans HH.out.2.1, by omega, by simp⟩
  have HZ : Hid _ := And.intro hst0 (And.intro hB0 (And.intro hs trivial))
  have g1 : U0.drew.cell? ⟨b1, 0, none⟩ = some (.pointer (some ⟨D, 0, none⟩)) := cl1 ((hB0.block _ hb1l).trans HH.out.1)
  clear hst0 hB0 hN hsU
  go_region_held3 (fun X => X.cell? ⟨b1, 0, none⟩ = some (.pointer (some ⟨D, 0, none⟩))) (first | exact g1 | exact g1' | fail) (first
    | (go_at_call 185; (with_reducible refine Calls.mono (mk_num _ _) ?_); rintro e w1 ⟨p1, rfl, l2, x2, b2'⟩; have H1 : Hid _ := And.intro (MkB.mk l2 x2 b2') (HZ.out.2.1.trans ((below_drewN 1).trans b2' |>.mono HZ.out.2.1.size)); clear l2 x2 b2' g1; have g1 := cl1 ((H1.out.2.block _ hb1l).trans HH.out.1))
    | (go_at_call 164; (with_reducible refine Calls.mono (mk_frac _ _) ?_); rintro e w2 ⟨p2, rfl, l2, x2, b2'⟩; have H2 : Hid _ := And.intro (MkB.mk l2 x2 b2') (H1.out.2.trans (b2'.mono H1.out.2.size)); clear l2 x2 b2' g1; have g1 := cl1 ((H2.out.2.block _ hb1l).trans HH.out.1))
    | (go_at_call 159; (with_reducible refine Calls.mono (mark_m _ _) ?_); rintro e w3 ⟨p3, rfl, h2⟩; have H3 : Hid _ := And.intro h2 (H2.out.2.trans (h2.bl.mono H2.out.2.size)); clear h2 g1; have g1 := cl1 ((H3.out.2.block _ hb1l).trans HH.out.1); have g1' : (w3.alloc (.cells #[fnV (209, #[pt p1]), fnV (193, #[pt p2]), fnV (187, #[pt p3])] 138)).cell? ⟨b1, 0, none⟩ = some (.pointer (some ⟨D, 0, none⟩)) := (Below.cell (p := ⟨b1, 0, none⟩) ((Below.refl w3.heap.size w3).alloc (Nat.le_refl _) _) (Nat.lt_of_lt_of_le hb1l H3.out.2.size)).trans g1)
    | (go_at_call 154; (refine Calls.mono (last_w H1.out.1 H2.out.1 H3.out.1 HZ.out.1 _ HZ.out.2.2.1) ?_); rintro e w6 ⟨t', b, n, p', rfl, h8⟩; have H8 : Hid _ := And.intro h8 trivial; clear g1; have g1 : w6.cell? ⟨b1, 0, none⟩ = some (.pointer (some ⟨D, 0, none⟩)) := cl1 (h8.1.at (show U0.drew.heap[b1]? = _ from (HZ.out.2.1.block _ hb1l).trans HH.out.1) (by omega)); clear h8)
    | fail)
  obtain ⟨hfr, hst, hts, hT, hF⟩ := H8.out.1
  have frW : Fro (fun k => k = W.heap.size ∨ k = D) W w6 := (Fro.below (O := fun k => k = W.heap.size ∨ k = D) HZ.out.2.1).trans (show Fro (fun k => k = W.heap.size ∨ k = D) U0 w6 from ⟨hfr.os, hfr.tape, hfr.output, hfr.size, hfr.block⟩)
  have fr6 : Fro (fun k => k = D) W w6 := ⟨frW.os, frW.tape, frW.output, frW.size, fun k hk hn => frW.block k hk (by omega)⟩
  have x6 := hst.d
  dsimp only at x6
  have y2 := cl1 (frW.at HH.out.1 (by omega))
  have y1 := cl1 hst.a
  obtain ⟨a1, a2⟩ := hst.a0
  dsimp only at a1 a2 y1
  obtain ⟨po, ps, pn⟩ := p'
  obtain ⟨d0, d1, d2⟩ := blk3 x6
  have cD := (cl_at (i := 1) x6 rfl).2
  dsimp only at *
  have x7 : (w6.setCell ⟨D, 1, none⟩ (.int .i64 (wr (ps + n)))).heap[D]? = some (.cells (spC ⟨po, wr (ps + n), pn⟩) 38 (0, 0)) := bset (i := 1) x6 (.int .i64 (wr (ps + n)))
  have f7 := fr6.set (X := D) (i := 1) (.inl rfl) (.int .i64 (wr (ps + n)))
  have hmm : ∀ B, b = B → (match lpG p (bl s) with | some x => B = true ∧ (⟨po, wr (ps + n), pn⟩ : Sp) = x.1 ∧ bl t' = x.2 | none => B = false) := by
    intro B hB
    rw [HH.out.2.2]
    cases B with
    | true => rw [hT hB]; exact ⟨rfl, rfl, rfl⟩
    | false => rw [hF hB]; rfl
  have HX : Hid _ := And.intro x7 (And.intro f7 (And.intro hts hmm))
  clear x7 f7 hmm hfr frW fr6 x6 hst hts hT hF H1 H2 H3 H8 HZ g1 g1' d0 d2
  go_wp2_with fail
  go_region
  all_goals
    go_wp2_with fail
    go_ret2
    exact ⟨t', b, ⟨po, wr (ps + n), pn⟩, rfl, HX.out.2.2.1, HX.out.2.1.drewN 1, HX.out.1, HX.out.2.2.2 b rfl⟩
theorem fc_last {U : World} {D b1 : Nat} (h1 : U.heap[b1]? = some (.cells #[.pointer (some ⟨D, 0, none⟩)] 140 (0, 0))) (n1 : D ≠ b1) : FC U (fun k => k = D) (StS D) (186, #[pt b1]) lpG := by
  refine ⟨en_last, fun W p s hW hp hs => ?_⟩
  refine Calls.mono (last_c s b1 D p W (hW.at h1 (fun q => n1 q.symm)) hp.x n1 hs) ?_
  rintro e w' ⟨t', b, p', rfl, hts, hf, hx, hm⟩
  refine ⟨t', b, p', rfl, fro_in hW hf rfl, ⟨hx⟩, hts, ?_⟩
  cases hg : lpG p (bl s) with
  | none => rw [hg] at hm; exact hm
  | some x => rw [hg] at hm; exact hm
end Go.Proofs.YtgaegajcejpmdaaGreatDoor.Dt
