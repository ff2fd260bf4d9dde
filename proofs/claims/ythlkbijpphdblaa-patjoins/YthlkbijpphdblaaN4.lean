/- The program: Escape. -/
import Derived.Test.YthlkbijpphdblaaN3
namespace Go.Proofs.Ythlkbijpphdblaa
open Go.RowKit
set_option linter.unusedVariables false

theorem cls_eq {P : Int → Bool} {s t : List Rg} (h : ClS P s) (ct : Cn t) (hm : ∀ x, memB t x = (decide (0 ≤ x ∧ x ≤ MX) && P x)) : s = t := cn_ext s t h.cn ct (fun x => by rw [h.mem, hm])
theorem wh_eq {s : List Rg} (h : ClS isWhite s) : s = whL := cls_eq h (rt0 (by decide +kernel)) (fun x => by
  rw [Bool.eq_iff_iff]
  unfold whL isWhite
  simp only [mem_cons, mem_nil, Bool.and_eq_true, Bool.or_eq_true, inR_iff, decide_eq_true_eq, Bool.false_eq_true, or_false]
  have : MX = 1114111 := rfl
  omega)
theorem st_eq {s : List Rg} (h : ClS isStart s) : s = stL := cls_eq h (rt0 (by decide +kernel)) (fun x => by
  rw [Bool.eq_iff_iff]
  unfold stL isStart isChar
  simp only [mem_cons, mem_nil, Bool.and_eq_true, Bool.or_eq_true, inR_iff, decide_eq_true_eq, Bool.false_eq_true, or_false]
  have : MX = 1114111 := rfl
  omega)
theorem pt_eq {s : List Rg} (h : ClS isPart s) : s = ptL := cls_eq h (rt0 (by decide +kernel)) (fun x => by
  rw [Bool.eq_iff_iff]
  unfold ptL isPart isStart isChar
  simp only [mem_cons, mem_nil, Bool.and_eq_true, Bool.or_eq_true, inR_iff, decide_eq_true_eq, Bool.false_eq_true, or_false]
  have : MX = 1114111 := rfl
  omega)
theorem blk3 {U : World} {X : Nat} {a b c : Value} {t : TypeId} (hx : U.heap[X]? = some (.cells #[a, b, c] t (0, 0))) : U.cell? ⟨X, 0, none⟩ = some a ∧ U.cell? ⟨X, 1, none⟩ = some b ∧ U.cell? ⟨X, 2, none⟩ = some c := by
  refine ⟨?_, ?_, ?_⟩ <;> simp [World.cell?, hx]
def pL : List Rg := [(33, 35), (37, 42), (44, 47), (58, 59), (63, 64), (91, 93), (95, 95), (123, 123), (125, 125)]
def zL : List Rg := [(32, 32), (160, 160)]
def cL : List Rg := [(0, 31), (127, 159)]
theorem wd_not {s n : List Rg} (h : OfS (pL ++ zL ++ cL) s) (hn : NotS s n) : n = wdL := by
  have e := of_same h
  subst e
  have hc := (ofR_ok (pL ++ zL ++ cL)).cn
  rw [← not_same hc hn]
  decide +kernel
def WdQ (w : World) (e : Ending) (w' : World) : Prop := ∃ v, e = .returned v ∧ Own .i32 64 w' w.heap.size v wdL ∧ Below w.heap.size w w'
set_option maxHeartbeats 2000000 in
theorem words_p (w : World) : Calls Try.prog 25 #[] w fun e w' => WdQ w e w' := by
  have q1 : Calls Try.prog 24 #[.string ⟨#[80]⟩] w fun e w' => EcQ (pL, true) w e w' := cat_xp w
  have q2 : ∀ W : World, Calls Try.prog 24 #[.string ⟨#[90]⟩] W fun e w' => EcQ (zL, true) W e w' := fun W => cat_xz W
  have q3 : ∀ W : World, Calls Try.prog 24 #[.string ⟨#[67]⟩] W fun e w' => EcQ (cL, true) W e w' := fun W => cat_xc W
  have HQ : Hid _ := And.intro q1 (And.intro q2 q3)
  clear q1 q2 q3
  go_enter Try.func25, Try.ntmps25
  go_wp2_with fail
  refine Calls.mono HQ.out.1 ?_
  rintro e w1 ⟨a1, c1, rfl, hown1, hb1⟩
  have H1 : Hid _ := And.intro hown1 hb1
  clear hown1 hb1
  go_wp2_with fail
  refine Calls.mono (HQ.out.2.1 _) ?_
  rintro e w2 ⟨a2, c2, rfl, hown2, hb2⟩
  have H2 : Hid _ := And.intro (H1.out.1.below hb2) (And.intro hown2 (H1.out.2.trans (hb2.mono H1.out.2.size)))
  clear hown2 hb2 H1
  go_wp2_with fail
  refine Calls.mono (HQ.out.2.2 _) ?_
  rintro e w3 ⟨a3, c3, rfl, hown3, hb3⟩
  have H3 : Hid _ := And.intro (H2.out.1.below hb3) (And.intro (H2.out.2.1.below hb3) (And.intro hown3 (H2.out.2.2.trans (hb3.mono H2.out.2.2.size))))
  clear hown3 hb3 H2
  dsimp only
  have hbW : Below w3.heap.size w3 (w3.alloc (.cells #[.slice a1 pL.length c1, .slice a2 zL.length c2, .slice a3 cL.length c3] 24)) := (Below.refl _ _).alloc (Nat.le_refl _) _
  have hx := nw_heap w3 (.cells #[.slice a1 pL.length c1, .slice a2 zL.length c2, .slice a3 cL.length c3] 24)
  have hcat := concat_p w3.heap.size 3 (fun j => if j = 0 then .slice a1 pL.length c1 else if j = 1 then .slice a2 zL.length c2 else .slice a3 cL.length c3) [pL, zL, cL] _ (lt_of hx) (fun j hj => by
    have : j = 0 ∨ j = 1 ∨ j = 2 := by simp at hj; omega
    rcases this with rfl | rfl | rfl
    · exact (blk3 hx).1
    · exact (blk3 hx).2.1
    · exact (blk3 hx).2.2) (fun j hj => by
    have : j = 0 ∨ j = 1 ∨ j = 2 := by simp at hj; omega
    rcases this with rfl | rfl | rfl
    · exact H3.out.1.sl.below hbW
    · exact H3.out.2.1.sl.below hbW
    · exact H3.out.2.2.1.sl.below hbW) rfl (by omega) (by decide)
  have hfl : [pL, zL, cL].flatten = pL ++ zL ++ cL := by simp
  rw [hfl] at hcat
  have HC : Hid _ := And.intro hcat (H3.out.2.2.2.trans (hbW.mono H3.out.2.2.2.size))
  clear hcat hbW hx hfl H3 HQ
  go_wp2_with fail
  refine Calls.mono HC.out.1 ?_
  rintro e w4 ⟨v4, rfl, hown4, hb4⟩
  have hbb := HC.out.2.trans (hb4.mono HC.out.2.size)
  have H4 : Hid _ := And.intro hown4 hbb
  clear hown4 hb4 hbb HC
  go_wp2_with fail
  refine Calls.mono (of_p _ _ w4 H4.out.1.sl (by decide)) ?_
  rintro e w5 ⟨v5, s5, rfl, hof, hown5, hl5, hb5⟩
  have hl5' : s5.length ≤ 50000 := Nat.le_trans hl5 (by decide)
  have H5 : Hid _ := And.intro hof (And.intro hown5 (H4.out.2.trans (hb5.mono H4.out.2.size)))
  clear hof hown5 hb5 hl5 H4
  go_wp2_with fail
  refine Calls.mono (not_p _ s5 w5 H5.out.2.1.sl H5.out.1.cn hl5') ?_
  rintro e w6 ⟨v6, s6, rfl, hnot, hown6, hl6, hb6⟩
  have hs := wd_not H5.out.1 hnot
  subst hs
  have H6 : Hid _ := And.intro (hown6.mono H5.out.2.2.size) (H5.out.2.2.trans (hb6.mono H5.out.2.2.size))
  clear hnot hown6 hl6 hb6
  go_wp2_with fail
  go_ret
  exact ⟨_, rfl, H6.out.1, H6.out.2⟩
set_option maxHeartbeats 1000000 in
theorem esc_115 (w : World) : Calls Try.prog 11 #[.int .u8 115] w fun e w' => EcQ (whL, true) w e w' := by
  have HQ : Hid _ := And.intro (class_white w) trivial
  go_enter Try.func11, Try.ntmps11
  go_wp2_with fail
  refine Calls.mono HQ.out.1 ?_
  rintro e w2 ⟨v, s, rfl, hcl, hown, hl, hb⟩
  have hs := wh_eq hcl
  subst hs
  have H2 : Hid _ := ec_mk hown hb
  clear hcl hown hl hb
  go_wp2_with fail
  go_ret2
  exact H2.out
set_option maxHeartbeats 1000000 in
theorem esc_105 (w : World) : Calls Try.prog 11 #[.int .u8 105] w fun e w' => EcQ (stL, true) w e w' := by
  have HQ : Hid _ := And.intro (class_start w) trivial
  go_enter Try.func11, Try.ntmps11
  go_wp2_with fail
  refine Calls.mono HQ.out.1 ?_
  rintro e w2 ⟨v, s, rfl, hcl, hown, hl, hb⟩
  have hs := st_eq hcl
  subst hs
  have H2 : Hid _ := ec_mk hown hb
  clear hcl hown hl hb
  go_wp2_with fail
  go_ret2
  exact H2.out
set_option maxHeartbeats 1000000 in
theorem esc_99 (w : World) : Calls Try.prog 11 #[.int .u8 99] w fun e w' => EcQ (ptL, true) w e w' := by
  have HQ : Hid _ := And.intro (class_part w) trivial
  go_enter Try.func11, Try.ntmps11
  go_wp2_with fail
  refine Calls.mono HQ.out.1 ?_
  rintro e w2 ⟨v, s, rfl, hcl, hown, hl, hb⟩
  have hs := pt_eq hcl
  subst hs
  have H2 : Hid _ := ec_mk hown hb
  clear hcl hown hl hb
  go_wp2_with fail
  go_ret2
  exact H2.out
set_option maxHeartbeats 1000000 in
theorem esc_100 (w : World) : Calls Try.prog 11 #[.int .u8 100] w fun e w' => EcQ ([(48, 57)], true) w e w' := by
  have HQ : Hid _ := And.intro (cat_xnd w) trivial
  go_enter Try.func11, Try.ntmps11
  go_wp2_with fail
  refine Calls.mono HQ.out.1 ?_
  rintro e w2 ⟨a, c, rfl, hown, hb⟩
  have H2 : Hid _ := And.intro hown hb
  clear hown hb
  go_wp2_with fail
  go_ret2
  exact ⟨a, c, rfl, H2.out.1, H2.out.2⟩
set_option maxHeartbeats 1000000 in
theorem esc_119 (w : World) : Calls Try.prog 11 #[.int .u8 119] w fun e w' => EcQ (wdL, true) w e w' := by
  have HQ : Hid _ := And.intro (words_p w) trivial
  go_enter Try.func11, Try.ntmps11
  go_wp2_with fail
  refine Calls.mono HQ.out.1 ?_
  rintro e w2 ⟨v, rfl, hown, hb⟩
  have H2 : Hid _ := ec_mk hown hb
  clear hown hb
  go_wp2_with fail
  go_ret2
  exact H2.out
set_option maxHeartbeats 1000000 in
theorem esc_83 (w : World) : Calls Try.prog 11 #[.int .u8 83] w fun e w' => EcQ (notR 0 whL, true) w e w' := by
  have hc : Cn whL := rt0 (by decide +kernel)
  have HQ : Hid _ := And.intro (esc_115 w) hc
  clear hc
  go_enter Try.func11, Try.ntmps11
  go_wp2_with fail
  refine Calls.mono HQ.out.1 ?_
  rintro e w2 ⟨a, c, rfl, hown, hb⟩
  dsimp only at *
  have q := not_p _ _ w2 hown.sl HQ.out.2 (by decide)
  have H2 : Hid _ := And.intro q hb
  clear hown hb q
  go_wp2_with fail
  refine Calls.mono H2.out.1 ?_
  rintro e w3 ⟨v3, s3, rfl, hnot, hown3, hl3, hb3⟩
  have hs := not_same HQ.out.2 hnot
  subst hs
  have H3 : Hid _ := ec_mk (hown3.mono H2.out.2.size) (H2.out.2.trans (hb3.mono H2.out.2.size))
  clear hnot hown3 hl3 hb3
  go_wp2_with fail
  go_ret2
  exact H3.out
set_option maxHeartbeats 1000000 in
theorem esc_73 (w : World) : Calls Try.prog 11 #[.int .u8 73] w fun e w' => EcQ (notR 0 stL, true) w e w' := by
  have hc : Cn stL := rt0 (by decide +kernel)
  have HQ : Hid _ := And.intro (esc_105 w) hc
  clear hc
  go_enter Try.func11, Try.ntmps11
  go_wp2_with fail
  refine Calls.mono HQ.out.1 ?_
  rintro e w2 ⟨a, c, rfl, hown, hb⟩
  dsimp only at *
  have q := not_p _ _ w2 hown.sl HQ.out.2 (by decide)
  have H2 : Hid _ := And.intro q hb
  clear hown hb q
  go_wp2_with fail
  refine Calls.mono H2.out.1 ?_
  rintro e w3 ⟨v3, s3, rfl, hnot, hown3, hl3, hb3⟩
  have hs := not_same HQ.out.2 hnot
  subst hs
  have H3 : Hid _ := ec_mk (hown3.mono H2.out.2.size) (H2.out.2.trans (hb3.mono H2.out.2.size))
  clear hnot hown3 hl3 hb3
  go_wp2_with fail
  go_ret2
  exact H3.out
set_option maxHeartbeats 1000000 in
theorem esc_67 (w : World) : Calls Try.prog 11 #[.int .u8 67] w fun e w' => EcQ (notR 0 ptL, true) w e w' := by
  have hc : Cn ptL := rt0 (by decide +kernel)
  have HQ : Hid _ := And.intro (esc_99 w) hc
  clear hc
  go_enter Try.func11, Try.ntmps11
  go_wp2_with fail
  refine Calls.mono HQ.out.1 ?_
  rintro e w2 ⟨a, c, rfl, hown, hb⟩
  dsimp only at *
  have q := not_p _ _ w2 hown.sl HQ.out.2 (by decide)
  have H2 : Hid _ := And.intro q hb
  clear hown hb q
  go_wp2_with fail
  refine Calls.mono H2.out.1 ?_
  rintro e w3 ⟨v3, s3, rfl, hnot, hown3, hl3, hb3⟩
  have hs := not_same HQ.out.2 hnot
  subst hs
  have H3 : Hid _ := ec_mk (hown3.mono H2.out.2.size) (H2.out.2.trans (hb3.mono H2.out.2.size))
  clear hnot hown3 hl3 hb3
  go_wp2_with fail
  go_ret2
  exact H3.out
set_option maxHeartbeats 1000000 in
theorem esc_68 (w : World) : Calls Try.prog 11 #[.int .u8 68] w fun e w' => EcQ (notR 0 [(48, 57)], true) w e w' := by
  have hc : Cn [(48, 57)] := rt0 (by decide +kernel)
  have HQ : Hid _ := And.intro (esc_100 w) hc
  clear hc
  go_enter Try.func11, Try.ntmps11
  go_wp2_with fail
  refine Calls.mono HQ.out.1 ?_
  rintro e w2 ⟨a, c, rfl, hown, hb⟩
  dsimp only at *
  have q := not_p _ _ w2 hown.sl HQ.out.2 (by decide)
  have H2 : Hid _ := And.intro q hb
  clear hown hb q
  go_wp2_with fail
  refine Calls.mono H2.out.1 ?_
  rintro e w3 ⟨v3, s3, rfl, hnot, hown3, hl3, hb3⟩
  have hs := not_same HQ.out.2 hnot
  subst hs
  have H3 : Hid _ := ec_mk (hown3.mono H2.out.2.size) (H2.out.2.trans (hb3.mono H2.out.2.size))
  clear hnot hown3 hl3 hb3
  go_wp2_with fail
  go_ret2
  exact H3.out
set_option maxHeartbeats 1000000 in
theorem esc_87 (w : World) : Calls Try.prog 11 #[.int .u8 87] w fun e w' => EcQ (notR 0 wdL, true) w e w' := by
  have hc : Cn wdL := rt0 (by decide +kernel)
  have HQ : Hid _ := And.intro (esc_119 w) hc
  clear hc
  go_enter Try.func11, Try.ntmps11
  go_wp2_with fail
  refine Calls.mono HQ.out.1 ?_
  rintro e w2 ⟨a, c, rfl, hown, hb⟩
  dsimp only at *
  have q := not_p _ _ w2 hown.sl HQ.out.2 (by decide)
  have H2 : Hid _ := And.intro q hb
  clear hown hb q
  go_wp2_with fail
  refine Calls.mono H2.out.1 ?_
  rintro e w3 ⟨v3, s3, rfl, hnot, hown3, hl3, hb3⟩
  have hs := not_same HQ.out.2 hnot
  subst hs
  have H3 : Hid _ := ec_mk (hown3.mono H2.out.2.size) (H2.out.2.trans (hb3.mono H2.out.2.size))
  clear hnot hown3 hl3 hb3
  go_wp2_with fail
  go_ret2
  exact H3.out
set_option maxHeartbeats 1000000 in
theorem esc_no (c : Int) (w : World) (h0 : c ≠ 115) (h1 : c ≠ 105) (h2 : c ≠ 99) (h3 : c ≠ 100) (h4 : c ≠ 119) (h5 : c ≠ 83) (h6 : c ≠ 73) (h7 : c ≠ 67) (h8 : c ≠ 68) (h9 : c ≠ 87) : Calls Try.prog 11 #[.int .u8 c] w fun e w' => EcQ ([], false) w e w' := by
  go_enter Try.func11, Try.ntmps11
  go_wp2_with fail
  go_ret2
  exact ⟨none, 0, rfl, Own.nil _ _ _ _, Below.refl _ _⟩
theorem esc_p (c : Int) (w : World) : Calls Try.prog 11 #[.int .u8 c] w fun e w' => EcQ (escS c) w e w' := by
  unfold escS
  by_cases h0 : c = 115
  · rw [if_pos h0, h0]
    exact esc_115 w
  rw [if_neg h0]
  by_cases h1 : c = 105
  · rw [if_pos h1, h1]
    exact esc_105 w
  rw [if_neg h1]
  by_cases h2 : c = 99
  · rw [if_pos h2, h2]
    exact esc_99 w
  rw [if_neg h2]
  by_cases h3 : c = 100
  · rw [if_pos h3, h3]
    exact esc_100 w
  rw [if_neg h3]
  by_cases h4 : c = 119
  · rw [if_pos h4, h4]
    exact esc_119 w
  rw [if_neg h4]
  by_cases h5 : c = 83
  · rw [if_pos h5, h5]
    exact esc_83 w
  rw [if_neg h5]
  by_cases h6 : c = 73
  · rw [if_pos h6, h6]
    exact esc_73 w
  rw [if_neg h6]
  by_cases h7 : c = 67
  · rw [if_pos h7, h7]
    exact esc_67 w
  rw [if_neg h7]
  by_cases h8 : c = 68
  · rw [if_pos h8, h8]
    exact esc_68 w
  rw [if_neg h8]
  by_cases h9 : c = 87
  · rw [if_pos h9, h9]
    exact esc_87 w
  rw [if_neg h9]
  exact esc_no c w h0 h1 h2 h3 h4 h5 h6 h7 h8 h9
end Go.Proofs.Ythlkbijpphdblaa
