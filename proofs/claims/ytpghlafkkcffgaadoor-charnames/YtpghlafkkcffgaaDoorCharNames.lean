/- For every text the statement CharNames answers true, at every number; the tables of the library that it names are laid as the program's text lays them, and are not read. -/
import Derived.Test.YtpghlafkkcffgaaDoorTie
import Derived.Test.YtpghlafkkcffgaaDoorCards
import Derived.Test.YtpghlafkkcffgaaDoorRefWords
import Derived.ProofKit
import Derived.OpenShut
import Derived.ShutString
import Derived.LaidMore
import Derived.Lay
import Derived.SevenTiedAt
import Derived.Stop.Joined
namespace Go.Proofs.YtpghlafkkcffgaaDoor.charNames
open Go.ChangeShapes Go.WideShapes Go.ChangeAt Go.RowKit
open Go.ChangeMaps (open_string shut_string)
set_option linter.unusedVariables false

theorem own : ownKnob Tryd.prog.godebug = none := by kernel_rfl

set_option maxHeartbeats 2000000 in
theorem walk_small (s : ByteArray) (how : Int) (hs : s.size ≤ 4000) (w : World) :
    Calls Tryd.prog 3 #[.string s, .int .i64 how] w fun e w' => e = .returned (.bool true) ∧ Below w.heap.size w w' := by
  have z0 : s.size ≤ maxLen := by unfold maxLen; omega
  have z1 : s.size ≤ 100000 := by omega
  have hwl := words_le (bl s)
  rw [bl_len] at hwl
  have hB := Below.refl w.heap.size w
  go_enter Tryd.func3, Tryd.ntmps3
  go_wp2_with (first | (go_at_call 5; refine (known_any _).mono ?_; rintro e wk ⟨rfl, hbk⟩; replace hB := hB.trans (hbk.mono hB.size); clear hbk) | (go_at_call 6; refine (qname_any _ _ z0).mono ?_; rintro e wk ⟨rfl, hbk⟩; replace hB := hB.trans (hbk.mono hB.size); clear hbk) | (go_at_call 7; refine (rqname_any _ _ z1).mono ?_; rintro e wk ⟨rfl, hbk⟩; replace hB := hB.trans (hbk.mono hB.size); clear hbk) | (go_at_call 8; refine (name_any _ _ z0).mono ?_; rintro e wk ⟨rfl, hbk⟩; replace hB := hB.trans (hbk.mono hB.size); clear hbk) | (go_at_call 9; refine (rname_any _ _ z1).mono ?_; rintro e wk ⟨rfl, hbk⟩; replace hB := hB.trans (hbk.mono hB.size); clear hbk) | (go_at_call 10; refine (nc_any _ _ z0).mono ?_; rintro e wk ⟨rfl, hbk⟩; replace hB := hB.trans (hbk.mono hB.size); clear hbk) | (go_at_call 11; refine (rnc_any _ _ z1).mono ?_; rintro e wk ⟨rfl, hbk⟩; replace hB := hB.trans (hbk.mono hB.size); clear hbk) | (go_at_call 12; refine (tok_any _ _ z0).mono ?_; rintro e wk ⟨rfl, hbk⟩; replace hB := hB.trans (hbk.mono hB.size); clear hbk) | (go_at_call 13; refine (rtok_any _ _ z1).mono ?_; rintro e wk ⟨rfl, hbk⟩; replace hB := hB.trans (hbk.mono hB.size); clear hbk))
  go_loopw [11] (fun i wr => ∃ k : Nat, k ≤ 5 ∧ i = .int .i64 k ∧ Below w.heap.size w wr) (fun i _ => 5 - (intOf i).toNat)
  case atStart => exact ⟨0, Nat.zero_le _, rfl, hB⟩
  case round =>
    obtain ⟨k, hk, rfl, hBr⟩ := hrel
    clear hB
    by_cases hlt : k ≤ 4
    · go_wp2_with fail
      refine (space_any s _ _ z1).mono ?_
      rintro e w2 ⟨rfl, hb2⟩
      replace hBr := hBr.trans (hb2.mono hBr.size)
      clear hb2
      go_wp2_with fail
      refine (rspace_any s _ _ z1).mono ?_
      rintro e w3 ⟨rfl, hb3⟩
      replace hBr := hBr.trans (hb3.mono hBr.size)
      clear hb3
      go_wp2
      go_roundw
      case rel => exact ⟨k + 1, by omega, by go_num, hBr⟩
      case measure => simp [intOf]; omega
    · go_wp2_with fail
      refine (space_any s _ _ z1).mono ?_
      rintro e w2 ⟨rfl, hb2⟩
      replace hBr := hBr.trans (hb2.mono hBr.size)
      clear hb2
      go_wp2_with fail
      refine (rspace_any s _ _ z1).mono ?_
      rintro e w3 ⟨rfl, hb3⟩
      replace hBr := hBr.trans (hb3.mono hBr.size)
      clear hb3
      go_wp2_with fail
      refine (words_any s _ (by omega)).mono ?_
      rintro e w4 ⟨a1, c1, rfl, hs1, hb4⟩
      replace hBr := hBr.trans (hb4.mono hBr.size)
      clear hb4
      go_wp2_with fail
      refine (rwords_any s _ z1).mono ?_
      rintro e w5 ⟨a2, c2, rfl, hs2, hb5⟩
      replace hBr := hBr.trans (hb5.mono hBr.size)
      have hs1' := hs1.below hb5
      clear hb5 hs1
      go_wp2_with fail
      refine (texts_same a1 a2 c1 c2 _ _ (by omega) hs1' hs2).mono ?_
      rintro e w6 ⟨rfl, hb6⟩
      replace hBr := hBr.trans (hb6.mono hBr.size)
      clear hb6 hs1' hs2
      go_wp2
      go_ret
      exact ⟨rfl, hBr⟩
set_option maxHeartbeats 400000 in
theorem walk_big (s : ByteArray) (how : Int) (hs : 4000 < s.size) (w : World) :
    Calls Tryd.prog 3 #[.string s, .int .i64 how] w fun e w' => e = .returned (.bool true) ∧ Below w.heap.size w w' := by
  go_enter Tryd.func3, Tryd.ntmps3
  go_wp2_with (go_at_call 5; refine (known_any _).mono ?_; rintro e w1 ⟨rfl, hb⟩)
  go_ret
  exact ⟨rfl, hb⟩
theorem walk (s : ByteArray) (how : Int) (w : World) :
    Calls Tryd.prog 3 #[.string s, .int .i64 how] w fun e w' => e = .returned (.bool true) ∧ Below w.heap.size w w' := by
  by_cases h : 4000 < s.size
  · exact walk_big s how h w
  · exact walk_small s how (by omega) w

set_option maxRecDepth 100000 in
theorem lifted (os : Os) (started : os.Started) (H : Type) (enc : TypeId × Value → H) :
    ReturnsInHanded {} Tryd.checked os 3 .any (fun w args => (Rows.charNamesSpec.pre enc Tryd.prog Tryd.f3 Rows.charNamesRow.domain false w args ∧ laidMetH Tryd.prog Rows.charNamesRow.laid w) ∧ sizedMet enc Tryd.prog Tryd.f3 (OpenSpec.ofChange Rows.charNamesSpec) false w args)
      (Rows.charNamesSpec.post enc Tryd.prog Tryd.f3 false true false false) := by
  refine returnsInHanded_of_change_and (C := Tryd.checked) (X := fun w _ => laidMetH Tryd.prog Rows.charNamesRow.laid w) (fun _ _ _ hh h => h.of_heap hh) own started (by kernel_rfl) Tryd.func3
    (ChangeSpec.witness_shaped (enc := enc) (C := Tryd.checked) (os := os) (X := fun w _ => laidMetH Tryd.prog Rows.charNamesRow.laid w) false (World.laidAll Tryd.prog os Rows.charNamesRow.laid) #[.string ByteArray.empty, .int .i64 0] 8 (World.laidAll_os _ _ _)
      (World.shaped_of_ZipB (by kernel_rfl) (by kernel_rfl)) (by kernel_rfl) (by kernel_rfl) (by kernel_rfl)
      (by rw [MakeChecks.laidMetH_plain _ _ _ (by kernel_rfl)]; exact laidMet_laidAll _ (by kernel_rfl) (by kernel_rfl))) ?_
  intro W base args ds gs before hval0 hW hc _ hL _
  have hval : ∀ (j : Nat) t v, Tryd.f3.params[j]? = some t → args[j]? = some v → Value.okWide Tryd.prog W .any base t v := hval0
  have hW' := hW
  obtain ⟨p, q, hA0, hV, rfl, _, _⟩ := hW
  have hA : DataW.TrodAll enc Tryd.prog W 0 (fun _ => true) true Tryd.f3.params.toList args.toList ds p := hA0
  rw [Tryd.params3] at hA hval
  obtain ⟨v0, v1, d0, d1, p0, p1, rfl, rfl, rfl, h0, h1⟩ := trodAll_two hA
  obtain ⟨rfl, rfl⟩ := trodVars_none hV
  obtain ⟨a0, rfl, rfl, rfl, w0⟩ := open_string Tryd.underlying9 (hval 0 9 v0 rfl rfl) h0
  obtain ⟨a1, rfl, rfl, rfl, w1⟩ := open_int Tryd.underlying3 (hval 1 3 v1 rfl rfl) h1
  clear hA0 hval0
  refine (walk a0 a1 W).mono fun e W' ⟨he, bel⟩ => ?_
  subst he
  exact ⟨_, rfl, _, _, _, [], [], [], hW', trodAll_mk1 (shut_bool Tryd.underlying4 _), trodAll_mk2 (shut_string Tryd.underlying9 w0) (shut_int Tryd.underlying3 w1), rfl, bel.frame _, fun h => by cases h⟩

theorem holds : Rows.charNamesRow.holds Tryd.pinned (OpenSpec.ofChange Rows.charNamesSpec) :=
  OpenClaim.holds_of_wide 3 Tryd.f3 rfl rfl rfl rfl rfl rfl rfl ⟨rfl, rfl, rfl, rfl, rfl⟩ rfl rfl rfl rfl rfl (by kernel_rfl) Tryd.func3 (by kernel_rfl)
    (of_decide_eq_true (by kernel_rfl)) (by unfold Func.isWrapper; first | (rw [if_pos (by decide +kernel)]; kernel_rfl) | (rw [if_neg (by decide +kernel)]; exact ⟨rfl, rfl⟩))
    (fun os started H enc _ => lifted os started H enc)
theorem proved : Rows.CharNamesCardSaid :=
  Claim7.holds_tied_plain_at .later [] [.data, .pinned] true (true, "b1d06526d4e9a7199a841f010d9017c752a378f14d21ab0680b2e66d702be4ff") false holds (fun _ h => by cases h) (by kernel_rfl) (fun _ h => by cases h) charNames_row_tie rfl ⟨rfl, rfl⟩ (by kernel_rfl) rfl
    (fun f fn hf hfn => by
      obtain rfl : f = 3 := Option.some.inj ((show Tryd.prog.funcNamed Rows.charNamesRow.func = some 3 by kernel_rfl).symm.trans hf) |>.symm
      obtain rfl : fn = Tryd.f3 := (Option.some.inj (Tryd.func3.symm.trans hfn)).symm
      exact ⟨by kernel_rfl, fun j t ht => by
        rw [Tryd.params3] at ht
        have hm : t ∈ [9, 3] := by simpa using Array.mem_of_getElem? ht
        have hall : ([9, 3].all fun u => !Tryd.prog.wantsStandIn u) = true := by kernel_rfl
        exact (show Tryd.prog.wantsStandIn t = false by simpa using List.all_eq_true.1 hall t hm)⟩)
    (by kernel_rfl)
#print axioms proved
end Go.Proofs.YtpghlafkkcffgaaDoor.charNames
