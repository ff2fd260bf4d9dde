/- For every number the statement CharLetters answers true; no condition. -/
import Derived.Test.YtpghlafkkcffgaaRows
import Derived.Test.YtpghlafkkcffgaaRound
import Derived.Deep.RegionHeld
import Derived.Deep.DrawnRows
import Derived.WalkKit
import Derived.ProofKit
import Derived.OpenShut
import Derived.ShutString
import Derived.Below
namespace Go.Proofs.Ytpghlafkkcffgaa.charLetters
open Go.ChangeShapes Go.WideShapes Go.ChangeAt Go.RowKit
open Go.ChangeMaps (open_string shut_string)
set_option linter.unusedVariables false
attribute [local go_sem ↓] Go.wp_at_zero Go.wp_at_succ

theorem own : ownKnob Try.prog.godebug = none := by kernel_rfl

set_option maxHeartbeats 4000000 in
theorem walk (a0 : Int) (w0 : (Lit.int .i32 a0).wf = true) (w : World) :
    Calls Try.prog 4 #[.int .i32 a0] w fun e w' => e = .returned (.bool true) ∧ Below w.heap.size w w' := by
  have hr := bounds_i32 w0
  have hwr : IntKind.i64.wrap a0 = a0 := wrap_i64_of a0 (by omega) (by omega)
  go_enter Try.func4, Try.ntmps4
  go_wp2_with fail
  refine (known_any _).mono ?_
  rintro e w1 ⟨rfl, hb1⟩
  go_wp2_with fail
  refine (encode_any _ _).mono ?_
  rintro e w2 ⟨a, rfl, hbt, hb2, hn2⟩
  go_wp2_with fail
  have hK : Kept w a (enc a0) w2 := ⟨hbt, hb1.trans (hb2.mono hb1.size)⟩
  have hcv : ∀ W, Kept w a (enc a0) W → (convert 22 9 (.slice a (enc a0).length (enc a0).length)).run Try.prog W = .ok (.string (sb (enc a0))) W :=
    fun W h => conv_bts a _ _ W h.1 (fun h => ⟨hn2 h, by rw [hn2 h]; rfl⟩)
  have HN2 : Hid _ := hn2
  have HR : Hid _ := hr
  clear hbt hb1 hb2 hn2 hr w0
  go_region_held (fun W => Kept w a (enc a0) W) (first | assumption | exact Kept.drew (by assumption) | exact Kept.step (by assumption) (by assumption)) (first | (go_at_call 15; refine (rencode_any _ _).mono ?_; rintro e w3 ⟨a3, rfl, hbt3, hb3, hn3⟩; have hcv3 := conv_bts a3 (enc a0).length (enc a0) w3 hbt3 (fun h => ⟨hn3 h, by rw [hn3 h]; rfl⟩); clear hn3 hbt3) | (go_at_call 16; refine (char_any _ _).mono ?_; rintro e w4 ⟨rfl, rfl⟩) | (go_at_call 17; refine (rchar_any _ _).mono ?_; rintro e w5 ⟨rfl, rfl⟩) | (go_at_call 18; refine (start_any _ _).mono ?_; rintro e w6 ⟨rfl, rfl⟩) | (go_at_call 19; refine (rstart_any _ _).mono ?_; rintro e w7 ⟨rfl, rfl⟩) | (go_at_call 20; refine (part_any _ _).mono ?_; rintro e w8 ⟨rfl, rfl⟩) | (go_at_call 21; refine (rpart_any _ _).mono ?_; rintro e w9 ⟨rfl, rfl⟩) | (go_at_call 22; refine (white_any _ _).mono ?_; rintro e w10 ⟨rfl, rfl⟩) | (go_at_call 23; refine (rwhite_any _ _).mono ?_; rintro e w11 ⟨rfl, rfl⟩))
  have hKe : Kept w a (enc a0) w11 := Kept.step hK.drew hb3
  have hll : Hid _ := enc_len a0
  have hle := wid_cases a0
  clear hb3 hK hcv
  obtain ⟨i0, hi, hz0, hz1, hz2⟩ := info_parts info5
  by_cases hz : wid a0 = 0
  · have hl0 : (enc a0).length = 0 := by have := hll.out; omega
    go_wp2
    go_ret
    exact ⟨rfl, hKe.2⟩
  · have hl1 : 1 ≤ (enc a0).length := by have := hll.out; omega
    have hl4 : (enc a0).length ≤ 4 := by have := hll.out; omega
    have hne : (((enc a0).length : Int) == 0) = false := beq_eq_false_iff_ne.2 (by omega)
    have hde : Hid _ := dec_enc a0 [122] hz
    obtain ⟨ba, oa, hcell⟩ : ∃ b o, a = some ⟨b, o, none⟩ ∧ ∀ i, i < (enc a0).length → w11.cell? ⟨b, o + i, none⟩ = some (.int .u8 ((enc a0).getD i 0)) := by
      rcases hKe.1.2 with h | h
      · rw [h] at hl1; simp at hl1
      · exact h
    obtain ⟨rfl, hcell⟩ := hcell
    have hbd := enc_bd a0
    have HCell : Hid _ := hcell
    have HBd : Hid _ := hbd
    have HK : Hid _ := hKe
    have HW : Hid _ := hz
    clear hcell hbd hKe hle hz HN2
    have hownA : (w11.alloc (.cells #[] 5)).ownsRow w11.heap.size 5 1 (.slice (some ⟨w11.heap.size, 0, none⟩) 0 0) 0 [] := World.ownsRow_made w11 #[] 0 (Nat.le_refl _) (Nat.zero_le _) rfl
    have hnews : ∀ j u, ((enc a0).map (Value.int .u8))[j]? = some u → (w11.alloc (.cells #[] 5)).cell? ((⟨ba, oa, none⟩ : Addr).add j) = some u := news_of HK.out.1
    have HNews : Hid _ := hnews
    clear hnews
    go_wp2_with (first | (at_builtin; refine wpList_append_own _ rfl (.tmp 53) (.tmp 54) 22 rfl w11.heap.size 5 i0 (.int .u8 0) 1 1 Try.underlying22 hi hz0 hz1 hz2 rfl (by decide) _ _ _ rfl hownA ⟨ba, oa, none⟩ (enc a0).length (enc a0).length ((enc a0).map (Value.int .u8)) rfl (by simp) HNews.out u8_cells (by unfold maxLen; omega) (by omega) (by simp) ?_; intro v2 wA hown2 hgr2 _) | (at_builtin; refine wpList_append_own _ rfl (.tmp 55) (.tmp 56) 22 rfl w11.heap.size 5 i0 (.int .u8 0) 1 1 Try.underlying22 hi hz0 hz1 hz2 rfl (by decide) _ _ _ rfl (hown2.alloc _) ⟨wA.heap.size, 0, none⟩ 1 1 [.int .u8 122] rfl rfl (cell_one_new _ _ _) (by intro u hu; simp at hu; subst hu; rfl) (by unfold maxLen; omega) (by omega) (by have := hgr2.size; simp at this ⊢; omega) ?_; intro v3 wB hown3 hgr3 _))
    have b0 := HK.out.2
    have bA : Below w.heap.size w wA := (b0.alloc b0.size _).grown hgr2 (by simp; have := b0.size; omega) (fun k hk => by cases hk; exact b0.size)
    have bB : Below w.heap.size w wB := (bA.alloc bA.size _).grown hgr3 (by simp; have := bA.size; omega) (fun k hk => Nat.le_trans b0.size (hown2.lt k hk).1)
    have hown3' : wB.ownsRow w11.heap.size 5 1 v3 ((enc a0).length + 1) ((enc a0 ++ [122]).map (Value.int .u8)) := by simpa using hown3
    obtain ⟨g, cap, rfl, hlc, hcm, hbt⟩ := own_slice hown3' (by simp) (getD_app HBd.out 122 (by omega) (by omega))
    refine (decode_any _ _ _ _ hlc hcm hbt).mono ?_
    rw [hde.out, ← hll.out]
    rintro e wC ⟨rfl, rfl⟩
    have HBB : Hid _ := bB
    clear bB bA b0 hown3 hown3' hown2 hgr2 hgr3 hownA hbt hlc hcm
    go_wp2
    go_ret
    exact ⟨rfl, HBB.out⟩

/-! ### THE ROW's STEP: WRITTEN OUT: LEAVE IT -/
set_option maxRecDepth 100000 in
theorem lifted (os : Os) (started : os.Started) (H : Type) (enc : TypeId × Value → H) :
    ReturnsInHanded {} Try.checked os 4 .any (Rows.charLettersSpec.pre6 enc Try.prog Try.f4 Rows.charLettersRow.domain false) (Rows.charLettersSpec.post enc Try.prog Try.f4 false true false false) := by
  refine returnsInHanded_of_change (C := Try.checked) own started (by kernel_rfl) Try.func4
    (ChangeSpec.witness6 (enc := enc) (C := Try.checked) false ⟨#[], #[.int .i32 0], []⟩ 8 (by kernel_rfl) (by kernel_rfl) (by kernel_rfl) (by kernel_rfl)) ?_
  intro W base args ds gs before hval0 hW hcnd _
  have hval : ∀ (j : Nat) t v, Try.f4.params[j]? = some t → args[j]? = some v → Value.okWide Try.prog W .any base t v := hval0
  have hW' := hW
  obtain ⟨p, q, hA0, hV, rfl, hfz, hnd⟩ := hW
  have hA : DataW.TrodAll enc Try.prog W 0 (fun _ => true) true Try.f4.params.toList args.toList ds p := hA0
  rw [Try.params4] at hA hval
  obtain ⟨v0, vs0, d0, ds0, p0, q0, hargs, rfl, rfl, h0, r0⟩ := trodAll_cons hA
  obtain ⟨rfl, rfl, rfl⟩ := trodAll_nil r0
  obtain rfl : args = #[v0] := by cases args; simp_all
  obtain ⟨rfl, rfl⟩ := trodVars_none hV
  obtain ⟨a0, rfl, rfl, rfl, w0⟩ := open_int Try.underlying21 (hval 0 21 v0 rfl rfl) h0
  clear hA0 hval0
  refine (walk a0 w0 W).mono fun e W' ⟨he, bel⟩ => ?_
  subst he
  exact ⟨_, rfl, _, _, _, [], [], [], hW', trodAll_mk1 (shut_bool Try.underlying4 _), (trodAll_cons_mk (shut_int Try.underlying21 w0) trodAll_mk0), rfl, bel.frame _, fun h => by cases h⟩

theorem over : Rows.charLettersRow.holds Try.pinned (OpenSpec.ofChange Rows.charLettersSpec) :=
  OpenClaim.holds_of_wide 4 Try.f4 rfl rfl rfl rfl rfl rfl rfl ⟨rfl, rfl, rfl, rfl, rfl⟩ rfl rfl rfl rfl rfl (by kernel_rfl) Try.func4 (by kernel_rfl)
    (of_decide_eq_true (by kernel_rfl)) (by unfold Func.isWrapper; first | (rw [if_pos (by decide +kernel)]; kernel_rfl) | (rw [if_neg (by decide +kernel)]; exact ⟨rfl, rfl⟩))
    (fun os started H enc _ => lifted os started H enc)

/-- ████ THE STATEMENT ████ -/
theorem proved : Rows.CharLettersSaid :=
  over
#print axioms proved
end Go.Proofs.Ytpghlafkkcffgaa.charLetters
