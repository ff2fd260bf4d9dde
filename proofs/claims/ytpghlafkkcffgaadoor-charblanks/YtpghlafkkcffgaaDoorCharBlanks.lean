/- For every text the statement CharBlanks answers true; the tables of the library that it names are laid as the program's text lays them, and are not read. -/
import Derived.Test.YtpghlafkkcffgaaDoorTie
import Derived.Test.YtpghlafkkcffgaaDoorCards
import Derived.Test.YtpghlafkkcffgaaDoorColMath
import Derived.ProofKit
import Derived.OpenShut
import Derived.ShutString
import Derived.LaidMore
import Derived.Lay
import Derived.SevenTiedAt
import Derived.Stop.Joined
namespace Go.Proofs.YtpghlafkkcffgaaDoor.charBlanks
open Go.ChangeShapes Go.WideShapes Go.ChangeAt Go.RowKit
open Go.ChangeMaps (open_string shut_string)
set_option linter.unusedVariables false

theorem own : ownKnob Tryd.prog.godebug = none := by kernel_rfl

set_option maxHeartbeats 1000000 in
theorem walk_small (s : ByteArray) (hs : s.size ≤ 4000) (w : World) :
    Calls Tryd.prog 4 #[.string s] w fun e w' => e = .returned (.bool true) ∧ Below w.heap.size w w' := by
  have hcb := col_bd (bl s) [] false (bl_bd s) (by intro i; simp)
  have hcl := col_len (bl s) [] false
  have hbc := bl_sb _ hcb
  have hbr := bl_sb ((bl s).map rp) (fun i => by
    by_cases h : i < (bl s).length
    · rw [rp_getD _ i h]; exact rp_bd _ (bl_bd s i)
    · rw [List.getD_eq_getElem?_getD, List.getElem?_eq_none (by simp; omega)]; simp)
  rw [bl_len] at hcl
  simp at hcl
  have z1 : (sb (col (bl s) [] false)).size ≤ 100000 := by rw [sb_size]; omega
  have z2 : (sb ((bl s).map rp)).size ≤ 100000 := by rw [sb_size, List.length_map, bl_len]; omega
  have z3 : (sb (col (bl s) [] false)).size ≤ 50000 := by rw [sb_size]; omega
  have l1 : (sb ((bl s).map rp)).size = s.size := by rw [sb_size, List.length_map, bl_len]
  have E1 : Hid (spc s 3 = sb (col (bl s) [] false)) := rfl
  have E2 : Hid (spc s 2 = sb ((bl s).map rp)) := rfl
  have E3 : Hid (spc (sb (col (bl s) [] false)) 3 = sb (col (bl s) [] false)) := by
    show sb (col (bl (sb (col (bl s) [] false))) [] false) = _
    rw [hbc, col_col]
  have E4 : Hid (spc (sb ((bl s).map rp)) 3 = sb (col (bl s) [] false)) := by
    show sb (col (bl (sb ((bl s).map rp))) [] false) = _
    rw [hbr, col_rp]
  have E5 : Hid (spc s 1 = s) := rfl
  have E6 : Hid (wordsOf (bl (sb (col (bl s) [] false))) = wordsOf (bl s)) := by show _ = _; rw [hbc, wordsOf_col]
  have hwl := words_le (bl s)
  rw [bl_len] at hwl
  clear hcb hcl hbc hbr
  generalize hC : sb (col (bl s) [] false) = C at *
  generalize hR : sb ((bl s).map rp) = R at *
  clear hC hR
  have HL : Hid _ := l1
  have hB := Below.refl w.heap.size w
  go_enter Tryd.func4, Tryd.ntmps4
  go_wp2_with fail
  refine (known_any _).mono ?_
  rintro e w1 ⟨rfl, hb⟩
  replace hB := hB.trans (hb.mono hB.size)
  clear hb
  go_wp2_with fail
  refine (space_any s 3 _ (by omega)).mono ?_
  rw [E1.out]
  rintro e w2 ⟨rfl, hb⟩
  replace hB := hB.trans (hb.mono hB.size)
  clear hb
  go_wp2_with fail
  refine (space_any s 2 _ (by omega)).mono ?_
  rw [E2.out]
  rintro e w3 ⟨rfl, hb⟩
  replace hB := hB.trans (hb.mono hB.size)
  clear hb
  go_wp2_with fail
  refine (space_any C 3 _ z1).mono ?_
  rw [E3.out]
  rintro e w4 ⟨rfl, hb⟩
  replace hB := hB.trans (hb.mono hB.size)
  clear hb
  go_wp2_with fail
  refine (space_any R 3 _ z2).mono ?_
  rw [E4.out]
  rintro e w5 ⟨rfl, hb⟩
  replace hB := hB.trans (hb.mono hB.size)
  clear hb
  go_wp2_with fail
  refine (words_any C _ z3).mono ?_
  rw [E6.out]
  rintro e w6 ⟨a1, c1, rfl, hs1, hb⟩
  replace hB := hB.trans (hb.mono hB.size)
  clear hb
  go_wp2_with fail
  refine (words_any s _ (by omega)).mono ?_
  rintro e w7 ⟨a2, c2, rfl, hs2, hb⟩
  replace hB := hB.trans (hb.mono hB.size)
  have hs1' := hs1.below hb
  clear hb hs1
  go_wp2_with fail
  refine (texts_same a1 a2 c1 c2 _ _ (by omega) hs1' hs2).mono ?_
  rintro e w8 ⟨rfl, hb⟩
  replace hB := hB.trans (hb.mono hB.size)
  clear hb hs1' hs2
  go_wp2_with fail
  refine (space_any s 1 _ (by omega)).mono ?_
  rw [E5.out]
  rintro e w9 ⟨rfl, hb⟩
  replace hB := hB.trans (hb.mono hB.size)
  clear hb
  go_wp2
  go_ret
  exact ⟨rfl, hB⟩
set_option maxHeartbeats 400000 in
theorem walk_big (s : ByteArray) (hs : 4000 < s.size) (w : World) :
    Calls Tryd.prog 4 #[.string s] w fun e w' => e = .returned (.bool true) ∧ Below w.heap.size w w' := by
  go_enter Tryd.func4, Tryd.ntmps4
  go_wp2_with (go_at_call 5; refine (known_any _).mono ?_; rintro e w1 ⟨rfl, hb⟩)
  go_ret
  exact ⟨rfl, hb⟩
theorem walk (s : ByteArray) (w : World) :
    Calls Tryd.prog 4 #[.string s] w fun e w' => e = .returned (.bool true) ∧ Below w.heap.size w w' := by
  by_cases h : 4000 < s.size
  · exact walk_big s h w
  · exact walk_small s (by omega) w

set_option maxRecDepth 100000 in
theorem lifted (os : Os) (started : os.Started) (H : Type) (enc : TypeId × Value → H) :
    ReturnsInHanded {} Tryd.checked os 4 .any (fun w args => (Rows.charBlanksSpec.pre enc Tryd.prog Tryd.f4 Rows.charBlanksRow.domain false w args ∧ laidMetH Tryd.prog Rows.charBlanksRow.laid w) ∧ sizedMet enc Tryd.prog Tryd.f4 (OpenSpec.ofChange Rows.charBlanksSpec) false w args)
      (Rows.charBlanksSpec.post enc Tryd.prog Tryd.f4 false true false false) := by
  refine returnsInHanded_of_change_and (C := Tryd.checked) (X := fun w _ => laidMetH Tryd.prog Rows.charBlanksRow.laid w) (fun _ _ _ hh h => h.of_heap hh) own started (by kernel_rfl) Tryd.func4
    (ChangeSpec.witness_shaped (enc := enc) (C := Tryd.checked) (os := os) (X := fun w _ => laidMetH Tryd.prog Rows.charBlanksRow.laid w) false (World.laidAll Tryd.prog os Rows.charBlanksRow.laid) #[.string ByteArray.empty] 8 (World.laidAll_os _ _ _)
      (World.shaped_of_ZipB (by kernel_rfl) (by kernel_rfl)) (by kernel_rfl) (by kernel_rfl) (by kernel_rfl)
      (by rw [MakeChecks.laidMetH_plain _ _ _ (by kernel_rfl)]; exact laidMet_laidAll _ (by kernel_rfl) (by kernel_rfl))) ?_
  intro W base args ds gs before hval0 hW hc _ hL _
  have hval : ∀ (j : Nat) t v, Tryd.f4.params[j]? = some t → args[j]? = some v → Value.okWide Tryd.prog W .any base t v := hval0
  have hW' := hW
  obtain ⟨p, q, hA0, hV, rfl, _, _⟩ := hW
  have hA : DataW.TrodAll enc Tryd.prog W 0 (fun _ => true) true Tryd.f4.params.toList args.toList ds p := hA0
  rw [Tryd.params4] at hA hval
  obtain ⟨v0, d0, rfl, rfl, h0⟩ := trodAll_one hA
  obtain ⟨rfl, rfl⟩ := trodVars_none hV
  obtain ⟨a0, rfl, rfl, rfl, w0⟩ := open_string Tryd.underlying9 (hval 0 9 v0 rfl rfl) h0
  clear hA0 hval0
  refine (walk a0 W).mono fun e W' ⟨he, bel⟩ => ?_
  subst he
  exact ⟨_, rfl, _, _, _, [], [], [], hW', trodAll_mk1 (shut_bool Tryd.underlying4 _), trodAll_mk1 (shut_string Tryd.underlying9 w0), rfl, bel.frame _, fun h => by cases h⟩

theorem holds : Rows.charBlanksRow.holds Tryd.pinned (OpenSpec.ofChange Rows.charBlanksSpec) :=
  OpenClaim.holds_of_wide 4 Tryd.f4 rfl rfl rfl rfl rfl rfl rfl ⟨rfl, rfl, rfl, rfl, rfl⟩ rfl rfl rfl rfl rfl (by kernel_rfl) Tryd.func4 (by kernel_rfl)
    (of_decide_eq_true (by kernel_rfl)) (by unfold Func.isWrapper; first | (rw [if_pos (by decide +kernel)]; kernel_rfl) | (rw [if_neg (by decide +kernel)]; exact ⟨rfl, rfl⟩))
    (fun os started H enc _ => lifted os started H enc)
theorem proved : Rows.CharBlanksCardSaid :=
  Claim7.holds_tied_plain_at .later [] [.data, .pinned] true (true, "b1d06526d4e9a7199a841f010d9017c752a378f14d21ab0680b2e66d702be4ff") false holds (fun _ h => by cases h) (by kernel_rfl) (fun _ h => by cases h) charBlanks_row_tie rfl ⟨rfl, rfl⟩ (by kernel_rfl) rfl
    (fun f fn hf hfn => by
      obtain rfl : f = 4 := Option.some.inj ((show Tryd.prog.funcNamed Rows.charBlanksRow.func = some 4 by kernel_rfl).symm.trans hf) |>.symm
      obtain rfl : fn = Tryd.f4 := (Option.some.inj (Tryd.func4.symm.trans hfn)).symm
      exact ⟨by kernel_rfl, fun j t ht => by
        rw [Tryd.params4] at ht
        have hm : t ∈ [9] := by simpa using Array.mem_of_getElem? ht
        have hall : ([9].all fun u => !Tryd.prog.wantsStandIn u) = true := by kernel_rfl
        exact (show Tryd.prog.wantsStandIn t = false by simpa using List.all_eq_true.1 hall t hm)⟩)
    (by kernel_rfl)
#print axioms proved
end Go.Proofs.YtpghlafkkcffgaaDoor.charBlanks
