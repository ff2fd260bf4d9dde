/- For every two texts the statement CharJoins answers true; no condition. -/
import Derived.Test.YtpghlafkkcffgaaRows
import Derived.Test.YtpghlafkkcffgaaJoinMath
import Derived.WalkKit
import Derived.ProofKit
import Derived.OpenShut
import Derived.ShutString
import Derived.Below
namespace Go.Proofs.Ytpghlafkkcffgaa.charJoins
open Go.ChangeShapes Go.WideShapes Go.ChangeAt Go.RowKit
open Go.ChangeMaps (open_string shut_string)
set_option linter.unusedVariables false

theorem own : ownKnob Try.prog.godebug = none := by kernel_rfl

theorem below_self (w : World) : Below w.heap.size w w := Below.refl _ _
/-- How the six ways of the first test come out, in facts that the walk takes as they stand. -/
def Six (a0 a1 : ByteArray) : Prop :=
  (nameB (bl a0) = true ∧ tokB (bl a1) = true ∧ nameB (bl (a0 ++ a1)) = true ∧ ncB (bl a0) = true ∧ ncB (bl a1) = true ∧ nameB (bl (a0 ++ ⟨#[58]⟩ ++ a1)) = true) ∨
  (nameB (bl a0) = true ∧ tokB (bl a1) = true ∧ nameB (bl (a0 ++ a1)) = true ∧ ncB (bl a0) = true ∧ ncB (bl a1) = false) ∨
  (nameB (bl a0) = true ∧ tokB (bl a1) = true ∧ nameB (bl (a0 ++ a1)) = true ∧ ncB (bl a0) = false) ∨
  (nameB (bl a0) = true ∧ tokB (bl a1) = false ∧ ncB (bl a0) = true ∧ ncB (bl a1) = false) ∨
  (nameB (bl a0) = true ∧ tokB (bl a1) = false ∧ ncB (bl a0) = false) ∨
  (nameB (bl a0) = false ∧ ncB (bl a0) = false)
theorem six (a0 a1 : ByteArray) : Six a0 a1 := by
  unfold Six
  by_cases hN : nameB (bl a0) = true
  · by_cases hT : tokB (bl a1) = true
    · have h1 : nameB (bl (a0 ++ a1)) = true := by rw [bl_app]; exact nameB_app hN hT
      by_cases hS : ncB (bl a0) = true
      · by_cases hC : ncB (bl a1) = true
        · refine .inl ⟨hN, hT, h1, hS, hC, ?_⟩
          rw [bl_app, bl_app, List.append_assoc]
          exact nameB_app hN (tokB_colon hT)
        · exact .inr (.inl ⟨hN, hT, h1, hS, by simpa using hC⟩)
      · exact .inr (.inr (.inl ⟨hN, hT, h1, by simpa using hS⟩))
    · have hT' : tokB (bl a1) = false := by simpa using hT
      have hC : ncB (bl a1) = false := by
        by_cases h : ncB (bl a1) = true
        · exact absurd (nc_tok h) hT
        · simpa using h
      by_cases hS : ncB (bl a0) = true
      · exact .inr (.inr (.inr (.inl ⟨hN, hT', hS, hC⟩)))
      · exact .inr (.inr (.inr (.inr (.inl ⟨hN, hT', by simpa using hS⟩))))
  · have hS : ncB (bl a0) = false := by
      by_cases h : ncB (bl a0) = true
      · exact absurd (nc_name h) hN
      · simpa using h
    exact .inr (.inr (.inr (.inr (.inr ⟨by simpa using hN, hS⟩))))

/-- How a text's parts come out: the last tests. -/
def Four (s p l : ByteArray) (ok : Bool) : Prop :=
  (ok = false ∧ p = ⟨#[]⟩ ∧ l = ⟨#[]⟩) ∨ (ok = true ∧ p = ⟨#[]⟩ ∧ l = s ∧ ncB (bl s) = true) ∨
  (ok = true ∧ p.toList.isEmpty = false ∧ p ++ ⟨#[58]⟩ ++ l = s ∧ ncB (bl p) = true ∧ ncB (bl l) = true ∧ ncB (bl s) = false ∧ p.size ≤ s.size ∧ l.size ≤ s.size)
theorem four (s : ByteArray) : Four s (qn s).1 (qn s).2.1 (qn s).2.2 := by
  unfold qn
  by_cases h : ix (bl s) = -1
  · rw [if_pos h]
    by_cases g : ncB (bl s) = true
    · rw [if_pos g]; exact .inr (.inl ⟨rfl, rfl, rfl, g⟩)
    · rw [if_neg g]; exact .inl ⟨rfl, rfl, rfl⟩
  · rw [if_neg h]
    have hb := ix_bd (bl s)
    obtain ⟨k, hk⟩ := Int.eq_ofNat_of_zero_le (by omega : 0 ≤ ix (bl s))
    have e1 : (ix (bl s)).toNat = k := by omega
    rw [e1]
    by_cases g : ncB (bl (s.extract 0 k)) = true ∧ ncB (bl (s.extract (k + 1) s.size)) = true
    · rw [if_pos g]
      refine .inr (.inr ⟨rfl, ?_, ?_, g.1, g.2, nc_colon (by omega), by simp; omega, by simp⟩)
      · have := nc_pos g.1
        rw [bl_len] at this
        have hsz : (s.extract 0 k).toList.length ≠ 0 := by rw [Lib.toList_data]; simpa using (by omega : (s.extract 0 k).size ≠ 0)
        cases hl : (s.extract 0 k).toList with
        | nil => rw [hl] at hsz; simp at hsz
        | cons a l => rfl
      · have ha := ix_at (bl s) k hk
        apply bl_inj
        rw [bl_app, bl_app, bl_cut, bl_cut_end]
        rw [List.append_assoc]
        exact ha.symm
    · rw [if_neg g]; exact .inl ⟨rfl, rfl, rfl⟩

set_option maxHeartbeats 2000000 in
theorem walk_small (a0 : ByteArray) (a1 : ByteArray) (w0 : a0.size ≤ 500) (w1 : a1.size ≤ 500) (w : World) :
    Calls Try.prog 6 #[.string a0, .string a1] w fun e w' => e = .returned (.bool true) ∧ Below w.heap.size w w' := by
  have s0 : a0.size ≤ maxLen := by unfold maxLen; omega
  have s1 : a1.size ≤ maxLen := by unfold maxLen; omega
  have s2 : (a0 ++ a1).size ≤ maxLen := by rw [sz_app]; unfold maxLen; omega
  have c1 : ∀ c : UInt8, (⟨#[c]⟩ : ByteArray).size = 1 := fun _ => rfl
  have s3 : (a0 ++ ⟨#[58]⟩ ++ a1).size ≤ maxLen := by rw [sz_app, sz_app, c1]; unfold maxLen; omega
  have s4 : (a0 ++ ⟨#[32]⟩ ++ a1).size ≤ maxLen := by rw [sz_app, sz_app, c1]; unfold maxLen; omega
  have s5 : (a0 ++ ⟨#[0]⟩).size ≤ maxLen := by rw [sz_app, c1]; unfold maxLen; omega
  have e3 : nameB (bl (a0 ++ ⟨#[32]⟩ ++ a1)) = false := by rw [bl_app, bl_app, List.append_assoc]; exact nameB_sep _ _ 32 (by decide) (by decide) (by decide +kernel)
  have e4 : nameB (bl (a0 ++ ⟨#[0]⟩)) = false := by rw [bl_app]; exact nameB_sep _ [] 0 (by decide) (by decide) (by decide +kernel)
  have hB := below_self w
  have hq := fun w => qname_any a0 w s0
  clear c1
  rcases six a0 a1 with ⟨h1, h2, h3, h4, h5, h6⟩ | ⟨h1, h2, h3, h4, h5⟩ | ⟨h1, h2, h3, h4⟩ | ⟨h1, h2, h4, h5⟩ | ⟨h1, h2, h4⟩ | ⟨h1, h4⟩
  all_goals
    go_enter Try.func6, Try.ntmps6
    go_wp2_with (first | (go_at_call 7; refine (known_any _).mono ?_; rintro e wk ⟨rfl, hbk⟩; replace hB := hB.trans (hbk.mono hB.size); clear hbk) | (go_at_call 24; refine (name_any _ _ (by assumption)).mono ?_; rintro e wk ⟨rfl, hbk⟩; replace hB := hB.trans (hbk.mono hB.size); clear hbk) | (go_at_call 25; refine (tok_any _ _ (by assumption)).mono ?_; rintro e wk ⟨rfl, hbk⟩; replace hB := hB.trans (hbk.mono hB.size); clear hbk) | (go_at_call 26; refine (nc_any _ _ (by assumption)).mono ?_; rintro e wk ⟨rfl, hbk⟩; replace hB := hB.trans (hbk.mono hB.size); clear hbk))
    refine (hq _).mono ?_
    have hf := four a0
    generalize (qn a0).1 = p at *
    generalize (qn a0).2.1 = l at *
    generalize (qn a0).2.2 = ok at *
    rintro e wk ⟨rfl, hbk⟩
    replace hB := hB.trans (hbk.mono hB.size)
    clear hbk
    rcases hf with ⟨rfl, rfl, rfl⟩ | ⟨rfl, rfl, rfl, f1⟩ | ⟨rfl, f1, f2, f3, f4, f5, f6, f7⟩
    · go_wp2
      go_ret
      exact ⟨rfl, hB⟩
    · first
        | (exfalso; rw [h4] at f1; exact Bool.noConfusion f1)
        | (go_wp2_with (first | (go_at_call 7; refine (known_any _).mono ?_; rintro e wk ⟨rfl, hbk⟩; replace hB := hB.trans (hbk.mono hB.size); clear hbk) | (go_at_call 24; refine (name_any _ _ (by assumption)).mono ?_; rintro e wk ⟨rfl, hbk⟩; replace hB := hB.trans (hbk.mono hB.size); clear hbk) | (go_at_call 25; refine (tok_any _ _ (by assumption)).mono ?_; rintro e wk ⟨rfl, hbk⟩; replace hB := hB.trans (hbk.mono hB.size); clear hbk) | (go_at_call 26; refine (nc_any _ _ (by assumption)).mono ?_; rintro e wk ⟨rfl, hbk⟩; replace hB := hB.trans (hbk.mono hB.size); clear hbk)); go_ret; exact ⟨rfl, hB⟩)
    · have sp : p.size ≤ maxLen := by unfold maxLen; omega
      have sl : l.size ≤ maxLen := by unfold maxLen; omega
      have g1 : p.size + 1 ≤ 501 := by omega
      have g2 : p.size + 1 + l.size ≤ 1001 := by omega
      first
        | (exfalso; rw [h4] at f5; exact Bool.noConfusion f5)
        | (go_wp2_with (first | (go_at_call 7; refine (known_any _).mono ?_; rintro e wk ⟨rfl, hbk⟩; replace hB := hB.trans (hbk.mono hB.size); clear hbk) | (go_at_call 24; refine (name_any _ _ (by assumption)).mono ?_; rintro e wk ⟨rfl, hbk⟩; replace hB := hB.trans (hbk.mono hB.size); clear hbk) | (go_at_call 25; refine (tok_any _ _ (by assumption)).mono ?_; rintro e wk ⟨rfl, hbk⟩; replace hB := hB.trans (hbk.mono hB.size); clear hbk) | (go_at_call 26; refine (nc_any _ _ (by assumption)).mono ?_; rintro e wk ⟨rfl, hbk⟩; replace hB := hB.trans (hbk.mono hB.size); clear hbk)); go_ret; exact ⟨rfl, hB⟩)
set_option maxHeartbeats 400000 in
theorem walk_big (a0 : ByteArray) (a1 : ByteArray) (h : 500 < a0.size ∨ 500 < a1.size) (w : World) :
    Calls Try.prog 6 #[.string a0, .string a1] w fun e w' => e = .returned (.bool true) ∧ Below w.heap.size w w' := by
  by_cases h0 : 500 < a0.size
  · clear h
    go_enter Try.func6, Try.ntmps6
    go_wp2_with (go_at_call 7; refine (known_any _).mono ?_; rintro e wk ⟨rfl, hbk⟩)
    go_ret
    exact ⟨rfl, hbk⟩
  · have h1 : 500 < a1.size := by omega
    clear h
    go_enter Try.func6, Try.ntmps6
    go_wp2_with (go_at_call 7; refine (known_any _).mono ?_; rintro e wk ⟨rfl, hbk⟩)
    go_ret
    exact ⟨rfl, hbk⟩
theorem walk (a0 : ByteArray) (a1 : ByteArray) (w0 : a0.size ≤ maxLen) (w1 : a1.size ≤ maxLen) (w : World) :
    Calls Try.prog 6 #[.string a0, .string a1] w fun e w' => e = .returned (.bool true) ∧ Below w.heap.size w w' := by
  by_cases h : 500 < a0.size ∨ 500 < a1.size
  · exact walk_big a0 a1 h w
  · exact walk_small a0 a1 (by omega) (by omega) w

/-! ### THE ROW's STEP: WRITTEN OUT: LEAVE IT -/
set_option maxRecDepth 100000 in
theorem lifted (os : Os) (started : os.Started) (H : Type) (enc : TypeId × Value → H) :
    ReturnsInHanded {} Try.checked os 6 .any (Rows.charJoinsSpec.pre6 enc Try.prog Try.f6 Rows.charJoinsRow.domain false) (Rows.charJoinsSpec.post enc Try.prog Try.f6 false true false false) := by
  refine returnsInHanded_of_change (C := Try.checked) own started (by kernel_rfl) Try.func6
    (ChangeSpec.witness6 (enc := enc) (C := Try.checked) false ⟨#[], #[.string ByteArray.empty, .string ByteArray.empty], []⟩ 8 (by kernel_rfl) (by kernel_rfl) (by kernel_rfl) (by kernel_rfl)) ?_
  intro W base args ds gs before hval0 hW hcnd _
  have hval : ∀ (j : Nat) t v, Try.f6.params[j]? = some t → args[j]? = some v → Value.okWide Try.prog W .any base t v := hval0
  have hW' := hW
  obtain ⟨p, q, hA0, hV, rfl, hfz, hnd⟩ := hW
  have hA : DataW.TrodAll enc Try.prog W 0 (fun _ => true) true Try.f6.params.toList args.toList ds p := hA0
  rw [Try.params6] at hA hval
  obtain ⟨v0, vs0, d0, ds0, p0, q0, hargs, rfl, rfl, h0, r0⟩ := trodAll_cons hA
  obtain ⟨v1, vs1, d1, ds1, p1, q1, rfl, rfl, rfl, h1, r1⟩ := trodAll_cons r0
  obtain ⟨rfl, rfl, rfl⟩ := trodAll_nil r1
  obtain rfl : args = #[v0, v1] := by cases args; simp_all
  obtain ⟨rfl, rfl⟩ := trodVars_none hV
  obtain ⟨a0, rfl, rfl, rfl, w0⟩ := open_string Try.underlying9 (hval 0 9 v0 rfl rfl) h0
  obtain ⟨a1, rfl, rfl, rfl, w1⟩ := open_string Try.underlying9 (hval 1 9 v1 rfl rfl) h1
  clear hA0 hval0
  refine (walk a0 a1 w0 w1 W).mono fun e W' ⟨he, bel⟩ => ?_
  subst he
  exact ⟨_, rfl, _, _, _, [], [], [], hW', trodAll_mk1 (shut_bool Try.underlying4 _), (trodAll_cons_mk (shut_string Try.underlying9 w0) (trodAll_cons_mk (shut_string Try.underlying9 w1) trodAll_mk0)), rfl, bel.frame _, fun h => by cases h⟩

theorem over : Rows.charJoinsRow.holds Try.pinned (OpenSpec.ofChange Rows.charJoinsSpec) :=
  OpenClaim.holds_of_wide 6 Try.f6 rfl rfl rfl rfl rfl rfl rfl ⟨rfl, rfl, rfl, rfl, rfl⟩ rfl rfl rfl rfl rfl (by kernel_rfl) Try.func6 (by kernel_rfl)
    (of_decide_eq_true (by kernel_rfl)) (by unfold Func.isWrapper; first | (rw [if_pos (by decide +kernel)]; kernel_rfl) | (rw [if_neg (by decide +kernel)]; exact ⟨rfl, rfl⟩))
    (fun os started H enc _ => lifted os started H enc)

/-- ████ THE STATEMENT ████ -/
theorem proved : Rows.CharJoinsSaid :=
  over
#print axioms proved
end Go.Proofs.Ytpghlafkkcffgaa.charJoins
