/- The program's closures: dayInto, clockInto. -/
import Derived.Test.YtijcbgjlofcdfaaRd5
import Derived.Test.YtijcbgjlofcdfaaPd5
namespace Go.Proofs.Ytijcbgjlofcdfaa
open Go.RowKit
set_option linter.unusedVariables false

set_option maxHeartbeats 1000000 in
theorem day_c (s : ByteArray) (b1 M : Nat) (W : World) (a : Mo) (h1 : W.heap[b1]? = some (.cells #[.pointer (some ⟨M, 0, none⟩)] 56 (0, 0))) (hM : W.heap[M]? = some (.cells (moC a) 24 (0, 0))) (n1 : M ≠ b1) (ha : MoB a) (hs : s.size ≤ maxLen) :
    Calls Try.prog 78 #[.string s, pt b1] W fun e W' => e = .returned (.tuple #[.string (s.extract (dk 2 (bl s)) s.size), .bool (twOk 1 (lenL (lnY a.y) a.m) (bl s))]) ∧ (W'.heap[M]? = some (.cells (moC { a with d := dvl ((bl s).take (dk 2 (bl s))) }) 24 (0, 0)) ∧ Fro (fun k => k = M) W W') := by
  obtain ⟨⟨k0, k1, k2, k3, k4, k5, k6, k7⟩, _⟩ := blk8 hM
  have c1 := cl1 h1
  have q1 := fun U : World => length_p a.y a.m U (by have := ha.y0; omega) (by have := ha.y1; omega) (by have := ha.m0; omega) (by have := ha.m1; omega)
  have q2 := fun U : World => mk_two (some ⟨M, 3, none⟩) 1 (lenL (lnY a.y) a.m) U
  have q3 := fun (U : World) (b1 b2 b3 : Nat) x1 x2 x3 (xM : U.heap[M]? = some (.cells (moC a) 24 (0, 0))) y1 y2 y3 => two_c s b1 b2 b3 M 3 1 (lenL (lnY a.y) a.m) U (moC a) 24 _ x1 x2 x3 xM rfl y1 y2 y3 hs
  generalize lenL (lnY a.y) a.m = LEN at *
  generalize twOk 1 LEN (bl s) = TW at *
  generalize dvl ((bl s).take (dk 2 (bl s))) = V at *
  generalize dk 2 (bl s) = K at *
  have HC : Hid _ := And.intro q1 (And.intro q2 q3)
  have HM : Hid _ := And.intro hM h1
  have HB : Hid (Below W.heap.size W W.drew) := below_drewN 1
  have hml : M < W.heap.size := lt_of hM
  clear q1 q2 q3 h1
  have g1 : W.drew.cell? ⟨b1, 0, none⟩ = some (.pointer (some ⟨M, 0, none⟩)) := c1
  have g2 : W.drew.cell? ⟨M, 1, none⟩ = some (.int .i64 a.y) := k1
  have g3 : W.drew.cell? ⟨M, 2, none⟩ = some (.int .i64 a.m) := k2
  clear hM k0 k1 k2 k3 k4 k5 k6 k7 c1
  go_enter Try.func78, Try.ntmps78
  go_wp2_with fail
  go_region_held3 (fun X => X.cell? ⟨b1, 0, none⟩ = some (.pointer (some ⟨M, 0, none⟩)) ∧ X.cell? ⟨M, 1, none⟩ = some (.int .i64 a.y) ∧ X.cell? ⟨M, 2, none⟩ = some (.int .i64 a.m)) (first | exact ⟨g1, g2, g3⟩ | fail) (first
    | (go_at_call 24; (with_reducible refine Calls.mono (HC.out.1 _) ?_); rintro e w1 ⟨rfl, hw1⟩; subst hw1)
    | (go_at_call 60; (with_reducible refine Calls.mono (HC.out.2.1 _) ?_); rintro e w2 ⟨rfl, x1, x2, x3, hb2⟩; have hsz := HB.out.size; have HX : Hid _ := And.intro x1 (And.intro x2 (And.intro x3 hsz)); have hbb := HB.out.trans (hb2.mono HB.out.size); clear HB g1 g2 g3 x1 x2 x3 hsz; have g1 := cl1 ((hbb.block _ (lt_of HM.out.2)).trans HM.out.2); have xM := (hbb.block _ (lt_of HM.out.1)).trans HM.out.1; obtain ⟨⟨_, g2, g3, _⟩, _⟩ := blk8 xM; have HB : Hid _ := And.intro hbb xM; clear hbb hb2 xM)
    | (go_at_call 77; (refine Calls.mono (HC.out.2.2 _ _ _ _ HX.out.1 HX.out.2.1 HX.out.2.2.1 HB.out.2 (by have := HX.out.2.2.2; omega) (by have := HX.out.2.2.2; omega) (by have := HX.out.2.2.2; omega)) ?_); rintro e w3 ⟨rfl, xM3, hf3⟩; have HE : Hid _ := And.intro xM3 ((Fro.below HB.out.1).trans' hf3 (fun i _ q => q)); clear g1 g2 g3; obtain ⟨⟨_, g2, g3, _⟩, _⟩ := blk8 (show w3.heap[M]? = some (.cells (moC { a with d := V }) 24 (0, 0)) from xM3); have g1 := cl1 (hf3.at ((HB.out.1.block _ (lt_of HM.out.2)).trans HM.out.2) (fun q => n1 q.symm)); clear xM3 hf3)
    | fail)
  all_goals
    go_wp2_with fail
    go_ret2
    exact ⟨rfl, HE.out⟩
end Go.Proofs.Ytijcbgjlofcdfaa
