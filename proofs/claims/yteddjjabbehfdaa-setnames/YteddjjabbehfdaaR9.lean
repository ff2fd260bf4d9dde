/- Both tellings tell the same rows. -/
import Derived.Test.YteddjjabbehfdaaR8
namespace Go.Proofs.Yteddjjabbehfdaa
open Go.RowKit
set_option linter.unusedVariables false

theorem of_same {l s : List Rg} (h : OfS l s) : ofR l = s := OfS.eq (ofR_ok l) h (fun _ _ _ => rfl)
theorem not_same {l s : List Rg} (hc : Cn l) (h : NotS l s) : notR 0 l = s := NotS.eq (notR_S hc) h
theorem bth_S {a b : List Rg} (ha : Cn a) (hb : Cn b) : BothS a b (bthR a b) := by
  have na := notR_S ha
  have nb := notR_S hb
  have ho := ofR_ok (notR 0 a ++ notR 0 b)
  have nn := notR_S ho.cn
  refine ⟨nn.cn, fun x => ?_⟩
  show memB (notR 0 (ofR (notR 0 a ++ notR 0 b))) x = _
  rw [nn.mem, ho.mem, mem_app, na.mem, nb.mem]
  cases d : decide (0 ≤ x ∧ x ≤ MX) with
  | true => cases memB a x <;> cases memB b x <;> rfl
  | false =>
    have e : memB a x = false := by
      cases e : memB a x with
      | false => rfl
      | true => rw [decide_eq_true (ha.in e)] at d; exact absurd d (by simp)
    rw [e]; rfl
theorem both_same {a b s : List Rg} (ha : Cn a) (hb : Cn b) (h : BothS a b s) : bthR a b = s :=
  cn_ext _ _ (bth_S ha hb).cn h.cn (fun x => by rw [(bth_S ha hb).mem, h.mem])
theorem minus_same {a b n s : List Rg} (ha : Cn a) (hb : Cn b) (hn : NotS b n) (h : BothS a n s) : minR a b = s := by
  unfold minR
  rw [not_same hb hn]
  exact both_same ha hn.cn h
end Go.Proofs.Yteddjjabbehfdaa
