/- The program: Add. -/
import Derived.Test.YtakemkhgaicckaaDoorE1
import Derived.Test.YtakemkhgaicckaaDoorE2
import Derived.Test.YtakemkhgaicckaaDoorE3
import Derived.Test.YtakemkhgaicckaaDoorE4
import Derived.Test.YtakemkhgaicckaaDoorD2
import Derived.Test.YtakemkhgaicckaaDoorD8
namespace Go.Proofs.YtakemkhgaicckaaDoor
open Go.RowKit
set_option linter.unusedVariables false
set_option linter.unusedSimpArgs false

theorem ArP.bad {a b : Nm} {w w' : World} (h : 4096 < (smS a b).2.1.length) (hb : Below w.heap.size w w') : ArP a b w (.returned (.tuple #[nmV false (.slice none 0 0) 0, .int .i64 3])) w' := by
  refine ⟨hb, ?_⟩
  unfold adS
  rw [if_pos h]
  exact ⟨_, rfl, none, 0, rfl, Nat.le_refl _, Nat.zero_le _, fun d hd => by simp at hd, .inl rfl⟩
theorem ArP.good {a b n : Nm} {w w' : World} {rv : Value} (h : ¬ 4096 < (smS a b).2.1.length) (hn : smS a b = n) (hb : Below w.heap.size w w') (ht : BtR w' rv n.2.1) : ArP a b w (.returned (.tuple #[nmV n.1 rv n.2.2, .int .i64 0])) w' := by
  refine ⟨hb, ?_⟩
  unfold adS
  rw [if_neg h, hn]
  exact ⟨rv, rfl, ht⟩
theorem box3p (w : World) (x0 x1 x2 y0 y1 y2 : Value) : (((w.alloc (.cells #[x0, x1, x2] 25)).alloc (.cells #[y0, y1, y2] 25)).alloc zP).heap[w.heap.size]? = some (.cells #[x0, x1, x2] 25 (0, 0)) ∧ (((w.alloc (.cells #[x0, x1, x2] 25)).alloc (.cells #[y0, y1, y2] 25)).alloc zP).heap[w.heap.size + 1]? = some (.cells #[y0, y1, y2] 25 (0, 0)) ∧ (((w.alloc (.cells #[x0, x1, x2] 25)).alloc (.cells #[y0, y1, y2] 25)).alloc zP).heap[w.heap.size + 2]? = some zP ∧ Below w.heap.size w (((w.alloc (.cells #[x0, x1, x2] 25)).alloc (.cells #[y0, y1, y2] 25)).alloc zP) := by
  refine ⟨xa3 w _ _ _, ?_, ?_, (((Below.refl _ _).alloc (Nat.le_refl _) _).alloc (by simp) _).alloc (by simp; omega) _⟩
  · have := xa2 (w.alloc (.cells #[x0, x1, x2] 25)) (.cells #[y0, y1, y2] 25) zP
    rwa [sza] at this
  · have := nw_heap ((w.alloc (.cells #[x0, x1, x2] 25)).alloc (.cells #[y0, y1, y2] 25)) zP
    rwa [sza, sza] at this
/-- Where Add stands, its greater part ahead. -/
structure AI (a b : Nm) (w : World) (P Q : Nm) (vP vQ : Value) (W : World) : Prop where
  bP : W.heap[w.heap.size]? = some (.cells #[.bool P.1, vP, .int .i64 P.2.2] 25 (0, 0))
  bQ : W.heap[w.heap.size + 1]? = some (.cells #[.bool Q.1, vQ, .int .i64 Q.2.2] 25 (0, 0))
  bR : W.heap[w.heap.size + 1 + 1]? = some zP
  bel : Below w.heap.size w W
  nP : NmR W vP P
  nQ : NmR W vQ Q
  sz : ¬ szS P Q < 0
  sm : smS a b = smS P Q
theorem AI.below {a b P Q : Nm} {w W W' : World} {vP vQ : Value} (h : AI a b w P Q vP vQ W) (hb : Below W.heap.size W W') : AI a b w P Q vP vQ W' :=
  ⟨(hb.block _ (lt_of h.bP)).trans h.bP, (hb.block _ (lt_of h.bQ)).trans h.bQ, (hb.block _ (lt_of h.bR)).trans h.bR, h.bel.trans (hb.mono h.bel.size), h.nP.below hb, h.nQ.below hb, h.sz, h.sm⟩
theorem AI.dim {a b P Q : Nm} {w W : World} {vP vQ : Value} (h : AI a b w P Q vP vQ W) : ∃ X S : Nat, ((P.2.1.length : Int) - P.2.2) + 1 = (X : Int) ∧ X = hiX P Q + 1 ∧ S = hiS P Q ∧ X + S ≤ 20000 ∧ 1 ≤ X ∧ (((Q.2.2 : Int) ≤ (P.2.2 : Int) ∧ P.2.2 = S) ∨ ((P.2.2 : Int) < (Q.2.2 : Int) ∧ Q.2.2 = S)) := by
  have l1 := h.nP.cn.1.len
  have l2 := h.nQ.cn.1.len
  have z1 := h.nP.le
  have z2 := h.nQ.le
  have hz := sz_ahead h.nP.cn h.nQ.cn h.sz
  refine ⟨hiX P Q + 1, hiS P Q, ?_, rfl, rfl, ?_, by omega, ?_⟩
  · unfold hiX; omega
  · unfold hiX hiS; omega
  · unfold hiS; omega
theorem AI.ahead {a b P Q : Nm} {w W : World} {vP vQ : Value} (h : AI a b w P Q vP vQ W) : Calls Tryd.prog 20 #[nmV P.1 vP P.2.2] W fun e w' => e = .returned (.int .i64 ((P.2.1.length : Int) - P.2.2)) ∧ Below W.heap.size W w' :=
  ahead_p h.nP.bt P.1 P.2.2 (by omega) (by have := h.nP.cn.1.len; have := h.nP.le; omega)
/-- What laid leaves. -/
def LaP (E : List Int) (X S : Nat) (W : World) (e : Ending) (W' : World) : Prop := ∃ T, e = .returned (.slice (some ⟨T, 0, none⟩) (X + S) (X + S)) ∧ W'.heap[T]? = some (.cells (E.map (Value.int .u8)).toArray 5 (0, 0)) ∧ W.heap.size ≤ T ∧ Below W.heap.size W W'
theorem AI.laidP {a b P Q : Nm} {w W : World} {vP vQ : Value} (h : AI a b w P Q vP vQ W) {X S : Nat} (hX : X = hiX P Q + 1) (hS : S = hiS P Q) (hm : X + S ≤ 20000) : ∀ W', Below W.heap.size W W' → ∀ sc : Nat, sc = S → Calls Tryd.prog 21 #[nmV P.1 vP P.2.2, .int .i64 X, .int .i64 sc] W' (LaP (exA P Q) X S W') := by
  intro W' hb sc e
  subst e
  have := laid_p (h.nP.below hb) X sc (by rw [hX]; unfold hiX; omega) (by rw [hS]; unfold hiS; omega) hm
  unfold LaP exA
  rw [← hX, ← hS]
  exact this
theorem AI.laidQ {a b P Q : Nm} {w W : World} {vP vQ : Value} (h : AI a b w P Q vP vQ W) {X S : Nat} (hX : X = hiX P Q + 1) (hS : S = hiS P Q) (hm : X + S ≤ 20000) : ∀ W', Below W.heap.size W W' → ∀ sc : Nat, sc = S → Calls Tryd.prog 21 #[nmV Q.1 vQ Q.2.2, .int .i64 X, .int .i64 sc] W' (LaP (exB P Q) X S W') := by
  intro W' hb sc e
  subst e
  have := laid_p (h.nQ.below hb) X sc (by rw [hX]; unfold hiX; omega) (by rw [hS]; unfold hiS; omega) hm
  unfold LaP exB
  rw [← hX, ← hS]
  exact this
theorem AI.keep {a b P Q : Nm} {w W : World} {vP vQ : Value} (h : AI a b w P Q vP vQ W) : ∀ W', Below W.heap.size W W' → ((W'.cell? ⟨w.heap.size, 0, none⟩ = some (.bool P.1) ∧ W'.cell? ⟨w.heap.size, 1, none⟩ = some vP ∧ W'.cell? ⟨w.heap.size, 2, none⟩ = some (.int .i64 P.2.2)) ∧ (W'.cell? ⟨w.heap.size + 1, 0, none⟩ = some (.bool Q.1) ∧ W'.cell? ⟨w.heap.size + 1, 1, none⟩ = some vQ ∧ W'.cell? ⟨w.heap.size + 1, 2, none⟩ = some (.int .i64 Q.2.2))) :=
  fun W' hb => ⟨boxK h.bP W' hb, boxK h.bQ W' hb⟩
theorem AI.sign {a b P Q : Nm} {w W : World} {vP vQ : Value} (h : AI a b w P Q vP vQ W) : (P.1 = Q.1 ∧ (P.1 == Q.1) = true) ∨ (P.1 ≠ Q.1 ∧ (P.1 == Q.1) = false) := by
  cases P.1 <;> cases Q.1 <;> simp
theorem AI.dgs {a b P Q : Nm} {w W : World} {vP vQ : Value} (h : AI a b w P Q vP vQ W) {X S : Nat} (hX : X = hiX P Q + 1) (hS : S = hiS P Q) : Dg (exA P Q) ∧ Dg (exB P Q) ∧ (exA P Q).length = X + S ∧ (exB P Q).length = X + S ∧ dval (exA P Q) + dval (exB P Q) < p10 (X + S) ∧ dval (exB P Q) ≤ dval (exA P Q) := by
  obtain ⟨e1, e2, e3, e4, _⟩ := ex_ok h.nP.cn h.nQ.cn
  rw [hX, hS]
  exact ⟨e3, e4, e1, e2, add_bd h.nP.cn h.nQ.cn, sub_bd h.nP.cn h.nQ.cn h.sz⟩
theorem AI.sum {a b P Q : Nm} {w W : World} {vP vQ : Value} (h : AI a b w P Q vP vQ W) {X S : Nat} (hX : X = hiX P Q + 1) (hS : S = hiS P Q) {sl : List Int} (hd : Dg sl) (hl : sl.length = X + S)
    (hv : (P.1 = Q.1 ∧ dval sl = dval (exA P Q) + dval (exB P Q)) ∨ (P.1 ≠ Q.1 ∧ dval sl = dval (exA P Q) - dval (exB P Q))) : canS P.1 sl S = smS a b := by
  rw [h.sm, hS]
  exact add_val h.nP.cn h.nQ.cn hd (by rw [hl, hX, hS]) hv
/-- Its boxes, behind a write into a row of its own. -/
theorem AI.write {a b P Q : Nm} {w W W' : World} {vP vQ : Value} {T : Nat} (h : AI a b w P Q vP vQ W) (hT : w.heap.size + 3 ≤ T) (hb : Below T W W') : W'.heap[w.heap.size]? = some (.cells #[.bool P.1, vP, .int .i64 P.2.2] 25 (0, 0)) ∧ W'.heap[w.heap.size + 1 + 1]? = some zP ∧ Below w.heap.size w W' :=
  ⟨(hb.block _ (by omega)).trans h.bP, (hb.block _ (by omega)).trans h.bR, h.bel.trans (hb.mono (by omega))⟩
/-- What canonical leaves. -/
def CaP (M : Nm) (W : World) (e : Ending) (W' : World) : Prop := ∃ rv, e = .returned (nmV M.1 rv M.2.2) ∧ BtR W' rv M.2.1 ∧ (∀ k, rv.ownBlock = some k → W.heap.size < k) ∧ Below W.heap.size W W'
theorem AI.canon {a b P Q : Nm} {w W : World} {vP vQ : Value} (h : AI a b w P Q vP vQ W) {X S : Nat} (hX : X = hiX P Q + 1) (hS : S = hiS P Q) (hm : X + S ≤ 20000) {w7 : World} {T : Nat} {sl : List Int} (hr : w7.heap[T]? = some (.cells (sl.map (Value.int .u8)).toArray 5 (0, 0))) (hd : Dg sl) (hl : sl.length = X + S)
    (hv : (P.1 = Q.1 ∧ dval sl = dval (exA P Q) + dval (exB P Q)) ∨ (P.1 ≠ Q.1 ∧ dval sl = dval (exA P Q) - dval (exB P Q))) : ∀ sc : Nat, sc = S → Calls Tryd.prog 24 #[.bool P.1, .slice (some ⟨T, 0, none⟩) (X + S) (X + S), .int .i64 sc] w7 (CaP (smS a b) w7) := by
  intro sc e
  subst e
  have hbt := btr_out hr hd (by omega)
  rw [hl] at hbt
  have := canon_p hbt hd P.1 sc (by omega) (by omega)
  rw [h.sum hX hS hd hl hv] at this
  exact this
set_option maxRecDepth 100000 in
set_option maxHeartbeats 6400000 in
theorem add_p {w : World} {v v' : Value} {a b : Nm} (ha : NmR w v a) (hb : NmR w v' b) : Calls Tryd.prog 10 #[nmV a.1 v a.2.2, nmV b.1 v' b.2.2] w (ArP a b w) := by
  obtain ⟨x1, x2, x3, hb0⟩ := box3p w (.bool a.1) v (.int .i64 a.2.2) (.bool b.1) v' (.int .i64 b.2.2)
  generalize hU : (((w.alloc (.cells #[.bool a.1, v, .int .i64 a.2.2] 25)).alloc (.cells #[.bool b.1, v', .int .i64 b.2.2] 25)).alloc zP) = U at x1 x2 x3 hb0
  have hszU : U.heap.size = w.heap.size + 3 := by rw [← hU]; simp
  have qa := fun W (hW : Below U.heap.size U W) => right_nm (ha.below (hb0.trans (hW.mono hb0.size)))
  have qb := fun W (hW : Below U.heap.size U W) => right_nm (hb.below (hb0.trans (hW.mono hb0.size)))
  have qf := fun W (hW : Below U.heap.size U W) => farther_p (ha.below (hb0.trans (hW.mono hb0.size))) (hb.below (hb0.trans (hW.mono hb0.size)))
  have hna := fun W (hW : Below U.heap.size U W) => ha.below (hb0.trans (hW.mono hb0.size))
  have hnb := fun W (hW : Below U.heap.size U W) => hb.below (hb0.trans (hW.mono hb0.size))
  have hca := ha.cn
  have hcb := hb.cn
  obtain ⟨va, vc, rfl, _⟩ := ha.bt.form
  obtain ⟨va', vc', rfl, _⟩ := hb.bt.form
  have hkp : ∀ W, Below U.heap.size U W → ((W.cell? ⟨w.heap.size, 0, none⟩ = some (.bool a.1) ∧ W.cell? ⟨w.heap.size, 1, none⟩ = some (.slice va a.2.1.length vc) ∧ W.cell? ⟨w.heap.size, 2, none⟩ = some (.int .i64 a.2.2)) ∧ (W.cell? ⟨w.heap.size + 1, 0, none⟩ = some (.bool b.1) ∧ W.cell? ⟨w.heap.size + 1, 1, none⟩ = some (.slice va' b.2.1.length vc') ∧ W.cell? ⟨w.heap.size + 1, 2, none⟩ = some (.int .i64 b.2.2))) := fun W hb => ⟨boxK x1 W hb, boxK x2 W hb⟩
  have HB : Hid (Below U.heap.size U U) := Below.refl _ _
  obtain ⟨⟨g00, g01, g02⟩, ⟨g10, g11, g12⟩⟩ := hkp U (Below.refl _ _)
  obtain ⟨SZ, hSZ⟩ : ∃ z, szS a b = z := ⟨_, rfl⟩
  rw [hSZ] at qf
  have H0 : Hid _ := And.intro ha hb
  have HKP : Hid _ := hkp
  have HH : Hid _ := And.intro qa (And.intro qb (And.intro qf (And.intro hSZ (And.intro hb0 (And.intro hna (And.intro hnb (And.intro hca (And.intro hcb (And.intro x1 (And.intro x2 (And.intro x3 hszU)))))))))))
  clear qa qb qf hb0 hkp x1 x2 x3 ha hb hSZ hna hnb hca hcb hszU
  go_enter Tryd.func10, Tryd.ntmps10
  go_wp2_with (first
    | (go_at_call 18; (with_reducible refine Calls.mono (HH.out.1 _ HB.out) ?_); rintro e w9 ⟨rfl, hb9⟩; have hbb := HB.out.trans (hb9.mono HB.out.size); clear HB g00 g01 g02 g10 g11 g12; obtain ⟨⟨g00, g01, g02⟩, ⟨g10, g11, g12⟩⟩ := HKP.out _ hbb; have HB : Hid _ := hbb; clear hbb hb9)
    | (go_at_call 18; (with_reducible refine Calls.mono (HH.out.2.1 _ HB.out) ?_); rintro e w9 ⟨rfl, hb9⟩; have hbb := HB.out.trans (hb9.mono HB.out.size); clear HB g00 g01 g02 g10 g11 g12; obtain ⟨⟨g00, g01, g02⟩, ⟨g10, g11, g12⟩⟩ := HKP.out _ hbb; have HB : Hid _ := hbb; clear hbb hb9))
  refine Calls.mono (HH.out.2.2.1 _ HB.out) ?_
  rintro e w3 ⟨rfl, hb9⟩
  have hbb := HB.out.trans (hb9.mono HB.out.size); clear HB g00 g01 g02 g10 g11 g12; obtain ⟨⟨g00, g01, g02⟩, ⟨g10, g11, g12⟩⟩ := HKP.out _ hbb; have HB : Hid _ := hbb; clear hbb hb9
  have hx1 := (HB.out.block _ (lt_of HH.out.2.2.2.2.2.2.2.2.2.1)).trans HH.out.2.2.2.2.2.2.2.2.2.1
  have hx2 := (HB.out.block _ (lt_of HH.out.2.2.2.2.2.2.2.2.2.2.1)).trans HH.out.2.2.2.2.2.2.2.2.2.2.1
  have hx3 := (HB.out.block _ (lt_of HH.out.2.2.2.2.2.2.2.2.2.2.2.1)).trans HH.out.2.2.2.2.2.2.2.2.2.2.2.1
  obtain ⟨f00, f01, f02⟩ := bl3f hx1
  obtain ⟨f10, f11, f12⟩ := bl3f hx2
  have hbw := HH.out.2.2.2.2.1.trans (HB.out.mono HH.out.2.2.2.2.1.size)
  have HX : Hid _ := And.intro hx1 (And.intro hx2 (And.intro hx3 hbw))
  clear hx1 hx2 hx3 hbw
  by_cases hlt : SZ < 0
  case' neg =>
    go_wp2_with fail
    clear g00 g01 g02 g10 g11 g12 f00 f01 f02 f10 f11 f12
    have HI : Hid (AI a b w a b (.slice va a.2.1.length vc) (.slice va' b.2.1.length vc') w3) := ⟨HX.out.1, HX.out.2.1, HX.out.2.2.1, HX.out.2.2.2, HH.out.2.2.2.2.2.1 _ HB.out, HH.out.2.2.2.2.2.2.1 _ HB.out, by rw [HH.out.2.2.2.1]; omega, rfl⟩
  case' pos =>
    go_wp2_with fail
    obtain ⟨q1, q2, q3, q4⟩ := set3 HX.out.2.2.2 (Nat.le_refl _) HX.out.1 (.bool b.1) (.slice va' b.2.1.length vc') (.int .i64 b.2.2)
    have hn1 : w.heap.size + 1 ≠ w.heap.size := by omega
    have hn2 : w.heap.size + 1 + 1 ≠ w.heap.size := by omega
    have hn3 : w.heap.size + 1 + 1 ≠ w.heap.size + 1 := by omega
    obtain ⟨p1, p2, p3, p4⟩ := set3 q2 (Nat.le_succ _) ((q3 _ hn1).trans HX.out.2.1) (.bool a.1) (.slice va a.2.1.length vc) (.int .i64 a.2.2)
    have e1 := (p3 _ hn1.symm).trans q1
    have e3 := (p3 _ hn3).trans ((q3 _ hn2).trans HX.out.2.2.1)
    have HI0 : Hid _ := And.intro p1 (And.intro e1 (And.intro e3 (And.intro p2 (And.intro (H0.out.1.below p2) (H0.out.2.below p2)))))
    clear q1 q2 q3 q4 p1 p2 p3 p4 e1 e3 hn1 hn2 hn3 g00 g01 g02 g10 g11 g12 f00 f01 f02 f10 f11 f12
    generalize ((((((w3.setCell ⟨w.heap.size, 0, none⟩ (.bool b.1)).setCell ⟨w.heap.size, 1, none⟩ (.slice va' b.2.1.length vc')).setCell ⟨w.heap.size, 2, none⟩ (.int .i64 b.2.2)).setCell ⟨w.heap.size + 1, 0, none⟩ (.bool a.1)).setCell ⟨w.heap.size + 1, 1, none⟩ (.slice va a.2.1.length vc)).setCell ⟨w.heap.size + 1, 2, none⟩ (.int .i64 a.2.2)) = W3 at *
    have HI : Hid (AI a b w b a (.slice va' b.2.1.length vc') (.slice va a.2.1.length vc) W3) := ⟨HI0.out.2.1, HI0.out.1, HI0.out.2.2.1, HI0.out.2.2.2.1, HI0.out.2.2.2.2.2, HI0.out.2.2.2.2.1, by rw [sz_turn HH.out.2.2.2.2.2.2.2.1 HH.out.2.2.2.2.2.2.2.2.1, HH.out.2.2.2.1]; omega, sm_comm HH.out.2.2.2.2.2.2.2.1 HH.out.2.2.2.2.2.2.2.2.1⟩
    clear HI0
  all_goals
    clear HH HX HKP HB H0
    obtain ⟨X, S, hX, d⟩ := HI.out.dim
    have HD : Hid _ := d
    clear d
    obtain ⟨hd1, hd2⟩ : X + S ≤ 20000 ∧ 1 ≤ X := ⟨HD.out.2.2.1, HD.out.2.2.2.1⟩
    refine Calls.mono HI.out.ahead ?_
    rintro e w4 ⟨rfl, hb4⟩
    have hI4 := HI.out.below hb4
    clear hb4 HI
    have hkp := hI4.keep
    have HKP : Hid _ := hkp
    obtain ⟨⟨g00, g01, g02⟩, ⟨g10, g11, g12⟩⟩ := hkp w4 (Below.refl _ _)
    have hmx := HD.out.2.2.2.2
    have HI : Hid _ := hI4
    clear hI4 hkp
    rcases hmx with ⟨hm, hS⟩ | ⟨hm, hS⟩
    all_goals
      have HSE : Hid _ := hS
      clear hS
      go_wp2_with fail
      have hkq : ∀ W, Below w4.heap.size w4 W → (W.cell? ⟨w.heap.size, 0, none⟩ = w4.cell? ⟨w.heap.size, 0, none⟩ ∧ W.cell? ⟨w.heap.size, 1, none⟩ = w4.cell? ⟨w.heap.size, 1, none⟩ ∧ W.cell? ⟨w.heap.size, 2, none⟩ = w4.cell? ⟨w.heap.size, 2, none⟩ ∧ W.cell? ⟨w.heap.size + 1, 0, none⟩ = w4.cell? ⟨w.heap.size + 1, 0, none⟩ ∧ W.cell? ⟨w.heap.size + 1, 1, none⟩ = w4.cell? ⟨w.heap.size + 1, 1, none⟩ ∧ W.cell? ⟨w.heap.size + 1, 2, none⟩ = w4.cell? ⟨w.heap.size + 1, 2, none⟩) := fun W hb => ⟨hb.cell (lt_of HI.out.bP), hb.cell (lt_of HI.out.bP), hb.cell (lt_of HI.out.bP), hb.cell (lt_of HI.out.bQ), hb.cell (lt_of HI.out.bQ), hb.cell (lt_of HI.out.bQ)⟩
      have HB : Hid (Below w4.heap.size w4 w4.drew) := Below.drewN' 1
      have hl1 := HI.out.laidP HD.out.1 HD.out.2.1 hd1
      have hl2 := HI.out.laidQ HD.out.1 HD.out.2.1 hd1
      have HL : Hid _ := And.intro hl1 (And.intro hl2 hkq)
      have hq : w4.drew.cell? ⟨w.heap.size, 0, none⟩ = w4.cell? ⟨w.heap.size, 0, none⟩ ∧ w4.drew.cell? ⟨w.heap.size, 1, none⟩ = w4.cell? ⟨w.heap.size, 1, none⟩ ∧ w4.drew.cell? ⟨w.heap.size, 2, none⟩ = w4.cell? ⟨w.heap.size, 2, none⟩ ∧ w4.drew.cell? ⟨w.heap.size + 1, 0, none⟩ = w4.cell? ⟨w.heap.size + 1, 0, none⟩ ∧ w4.drew.cell? ⟨w.heap.size + 1, 1, none⟩ = w4.cell? ⟨w.heap.size + 1, 1, none⟩ ∧ w4.drew.cell? ⟨w.heap.size + 1, 2, none⟩ = w4.cell? ⟨w.heap.size + 1, 2, none⟩ := ⟨rfl, rfl, rfl, rfl, rfl, rfl⟩
      have HQ : Hid _ := hq
      clear hl1 hl2 hkq hq
      go_region_held3 (fun W => W.cell? ⟨w.heap.size, 0, none⟩ = w4.cell? ⟨w.heap.size, 0, none⟩ ∧ W.cell? ⟨w.heap.size, 1, none⟩ = w4.cell? ⟨w.heap.size, 1, none⟩ ∧ W.cell? ⟨w.heap.size, 2, none⟩ = w4.cell? ⟨w.heap.size, 2, none⟩ ∧ W.cell? ⟨w.heap.size + 1, 0, none⟩ = w4.cell? ⟨w.heap.size + 1, 0, none⟩ ∧ W.cell? ⟨w.heap.size + 1, 1, none⟩ = w4.cell? ⟨w.heap.size + 1, 1, none⟩ ∧ W.cell? ⟨w.heap.size + 1, 2, none⟩ = w4.cell? ⟨w.heap.size + 1, 2, none⟩) (first | exact HQ.out | go_keep) (first
        | (go_at_call 21; (with_reducible refine Calls.mono (HL.out.1 _ HB.out _ HSE.out) ?_); rintro e w5 ⟨T1, rfl, hr1, ht1, hb9⟩; have hbb := HB.out.trans (hb9.mono HB.out.size); have hsz5 := HB.out.size; clear HQ; have HQ : Hid _ := HL.out.2.2 _ hbb; have H5 : Hid _ := And.intro hr1 (Nat.le_trans hsz5 ht1); clear HB hr1 ht1 hb9 hsz5; have HB : Hid _ := hbb; clear hbb)
        | (go_at_call 21; (with_reducible refine Calls.mono (HL.out.2.1 _ HB.out _ HSE.out) ?_); rintro e w6 ⟨T2, rfl, hr2, ht2, hb9⟩; have hbb := HB.out.trans (hb9.mono HB.out.size); clear HQ; have HQ : Hid _ := HL.out.2.2 _ hbb; have H6 : Hid _ := And.intro hr2 (And.intro ht2 hb9); clear HB hr2 ht2 hb9; have HB : Hid _ := hbb; clear hbb))
      all_goals
        have hI6 := HI.out.below HB.out
        have hT1 := (H6.out.2.2.block _ (lt_of H5.out.1)).trans H5.out.1
        have hne : T1 ≠ T2 := by
          have h1 := lt_of H5.out.1
          have h2 := H6.out.2.1
          omega
        have hTb : w.heap.size + 3 ≤ T1 := by
          have h1 := H5.out.2
          have h2 := lt_of HI.out.bR
          omega
        have hdg := hI6.dgs HD.out.1 HD.out.2.1
        have hcan := fun (w7 : World) (sl : List Int) (hr : w7.heap[T1]? = some (Obj.cells (sl.map (Value.int .u8)).toArray 5 (0, 0))) hd hl hv => hI6.canon HD.out.1 HD.out.2.1 hd1 hr hd hl hv
        have hsg := hI6.sign
        have hwr := fun W' => hI6.write (W' := W') hTb
        have hpl := plus_p hT1 H6.out.1 hne hdg.1 hdg.2.1 hdg.2.2.1 hdg.2.2.2.1 hd1 hdg.2.2.2.2.1
        have hmi := minus_p hT1 H6.out.1 hne hdg.1 hdg.2.1 hdg.2.2.1 hdg.2.2.2.1 hd1 hdg.2.2.2.2.2
        have H7 : Hid _ := And.intro hpl (And.intro hmi (And.intro hcan hwr))
        clear hpl hmi hcan hwr hdg hT1 hne hI6
        rcases hsg with ⟨he, hbe⟩ | ⟨he, hbe⟩
        case' inl =>
          have HE : Hid _ := fun w7 sl hr hd hl hv => H7.out.2.2.1 w7 sl hr hd hl (.inl ⟨he, hv⟩)
          clear he
          go_wp2_with fail
          refine Calls.mono H7.out.1 ?_
        case' inr =>
          have HE : Hid _ := fun w7 sl hr hd hl hv => H7.out.2.2.1 w7 sl hr hd hl (.inr ⟨he, hv⟩)
          clear he
          go_wp2_with fail
          refine Calls.mono H7.out.2.1 ?_
        all_goals
          rintro e w7 ⟨rfl, sl, hr, hds, hls, hvs, hb7, hz7⟩
          obtain ⟨y1, y2, y3⟩ := H7.out.2.2.2 _ hb7
          have hcn := HE.out w7 sl hr hds hls hvs
          clear g00 g01 g02 g10 g11 g12
          obtain ⟨g00, g01, g02⟩ := bl3 y1
          have H8 : Hid _ := And.intro hcn (And.intro y2 y3)
          clear hcn y1 y2 y3 hr hds hls hvs hb7 hz7 HE H7
          go_wp2_with fail
          refine Calls.mono (H8.out.1 _ HSE.out) ?_
          rintro e w8 ⟨rv, rfl, hbt8, hown8, hb8⟩
          obtain ⟨rb, rd, rfl, _⟩ := hbt8.form
          have hR8 := (hb8.block _ (lt_of H8.out.2.1)).trans H8.out.2.1
          have hbw8 := H8.out.2.2.trans (hb8.mono H8.out.2.2.size)
          have hlt8 := lt_of H8.out.2.1
          have hsz8 := hb8.size
          obtain ⟨M, hM⟩ : ∃ M, smS a b = M := ⟨_, rfl⟩
          rw [hM] at hbt8 hown8
          rw [hM]
          have HM : Hid _ := hM
          clear hM
          obtain ⟨m1, m2, m3⟩ := M
          dsimp only at *
          have hbA : Below w8.heap.size w8 (w8.alloc (.cells #[.bool m1, .slice rb m2.length rd, .int .i64 m3] 25)) := (Below.refl _ _).alloc (Nat.le_refl _) _
          have hRA := (hbA.block _ (lt_of hR8)).trans hR8
          have hbwA := hbw8.trans (hbA.mono hbw8.size)
          have hbtA := hbt8.below hbA
          obtain ⟨r0, r1, r2⟩ := bl3 hR8
          obtain ⟨rf0, rf1, rf2⟩ := bl3f hR8
          obtain ⟨ra0, ra1, ra2⟩ := bl3 hRA
          obtain ⟨raf0, raf1, raf2⟩ := bl3f hRA
          have hne8 : w.heap.size + 1 + 1 ≠ w8.heap.size := by omega
          have H9 : Hid _ := And.intro hRA (And.intro hbwA (And.intro hbtA hown8))
          clear hR8 hbw8 hbA hRA hbwA hbtA hbt8 hown8 hb8 H8 g00 g01 g02
          by_cases hbig : (4096 : Int) < (m2.length : Int)
          · go_wp2_with fail
            obtain ⟨q1, q2, q3, q4⟩ := set3 H9.out.2.1 (by omega) H9.out.1 (.bool false) (.slice none 0 0) (.int .i64 0)
            generalize ((((w8.alloc (.cells #[.bool m1, .slice rb m2.length rd, .int .i64 m3] 25)).setCell ⟨w.heap.size + 1 + 1, 0, none⟩ (.bool false)).setCell ⟨w.heap.size + 1 + 1, 1, none⟩ (.slice none 0 0)).setCell ⟨w.heap.size + 1 + 1, 2, none⟩ (.int .i64 0)) = W9 at *
            obtain ⟨y0, y1, y2⟩ := bl3 q1
            exact bodyPost_ret (v := .tuple #[nmV false (.slice none 0 0) 0, .int .i64 3]) (by simp [results, Tryd.results10, go_sem, y0, y1, y2]) rfl (ArP.bad (by rw [HM.out]; dsimp only; omega) q2)
          · go_wp2_with fail
            obtain ⟨q1, q2, q3, q4⟩ := set3 H9.out.2.1 (by omega) H9.out.1 (.bool m1) (.slice rb m2.length rd) (.int .i64 m3)
            have hbt9 := H9.out.2.2.1.kept (Nat.le_of_eq q4.symm) q3 (fun k hk hn e => by have := H9.out.2.2.2 k hk; omega)
            generalize ((((w8.alloc (.cells #[.bool m1, .slice rb m2.length rd, .int .i64 m3] 25)).setCell ⟨w.heap.size + 1 + 1, 0, none⟩ (.bool m1)).setCell ⟨w.heap.size + 1 + 1, 1, none⟩ (.slice rb m2.length rd)).setCell ⟨w.heap.size + 1 + 1, 2, none⟩ (.int .i64 m3)) = W9 at *
            obtain ⟨y0, y1, y2⟩ := bl3 q1
            exact bodyPost_ret (v := .tuple #[nmV m1 (.slice rb m2.length rd) m3, .int .i64 0]) (by simp [results, Tryd.results10, go_sem, y0, y1, y2]) rfl (ArP.good (n := (m1, m2, m3)) (by rw [HM.out]; dsimp only; omega) HM.out q2 hbt9)
end Go.Proofs.YtakemkhgaicckaaDoor
