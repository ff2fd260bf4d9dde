/- SetLaws: the walk. -/
import Derived.Test.YteddjjabbehfdaaP9
namespace Go.Proofs.Yteddjjabbehfdaa
open Go.RowKit
set_option linter.unusedVariables false

theorem sz_union {x y u i : List Rg} (cx : Cn x) (cy : Cn y) (hu : OfS (x ++ y) u) (hi : BothS x y i) : sz x + sz y = sz u + sz i := by
  rw [sz_cnt x cx, sz_cnt y cy, sz_cnt u hu.cn, sz_cnt i hi.cn]
  have h := cnt_or (memB x) (memB y) NL
  have e1 : cnt (memB u) NL = cnt (fun z => memB x z || memB y z) NL := cnt_congr NL (fun z h0 h1 => by
    have hM : MX = 1114111 := rfl
    have hN : ((NL : Nat) : Int) = 1114112 := rfl
    rw [hu.mem, mem_app, decide_eq_true (by omega), Bool.and_true])
  have e2 : cnt (memB i) NL = cnt (fun z => memB x z && memB y z) NL := cnt_congr NL (fun z _ _ => hi.mem z)
  omega
theorem sz_not {x n : List Rg} (cx : Cn x) (hn : NotS x n) : sz x + sz n = 1114112 := by
  rw [sz_cnt x cx, sz_cnt n hn.cn]
  have h := cnt_not (memB x) NL
  have e1 : cnt (memB n) NL = cnt (fun z => !memB x z) NL := cnt_congr NL (fun z h0 h1 => by
    have hM : MX = 1114111 := rfl
    have hN : ((NL : Nat) : Int) = 1114112 := rfl
    rw [hn.mem, decide_eq_true (by omega), Bool.true_and])
  have hN : ((NL : Nat) : Int) = 1114112 := rfl
  omega
theorem sz_minus {x y n m i : List Rg} (cx : Cn x) (hn : NotS y n) (hm : BothS x n m) (hi : BothS x y i) : sz m + sz i = sz x := by
  rw [sz_cnt x cx, sz_cnt m hm.cn, sz_cnt i hi.cn]
  have h := cnt_or (memB m) (memB i) NL
  have e1 : cnt (fun z => memB m z || memB i z) NL = cnt (memB x) NL := cnt_congr NL (fun z h0 h1 => by
    have hM : MX = 1114111 := rfl
    have hN : ((NL : Nat) : Int) = 1114112 := rfl
    rw [hm.mem, hi.mem, hn.mem, decide_eq_true (by omega), Bool.true_and]
    cases memB x z <;> cases memB y z <;> rfl)
  have e2 : cnt (fun z => memB m z && memB i z) NL = 0 := cnt_zero NL (fun z h0 h1 => by
    rw [hm.mem, hi.mem, hn.mem]
    cases memB x z <;> cases memB y z <;> simp)
  omega
theorem not_not {x n k : List Rg} (cx : Cn x) (hn : NotS x n) (hk : NotS n k) : k = x := cn_ext k x hk.cn cx (fun z => by
  rw [hk.mem, hn.mem]
  cases e : memB x z with
  | true => rw [decide_eq_true (cx.in e)]; rfl
  | false => cases decide (0 ≤ z ∧ z ≤ MX) <;> rfl)
set_option maxRecDepth 8000 in
set_option maxHeartbeats 8000000 in
theorem laws_s (va vb : Value) (a b : List Rg) (r : Int) (w : World) (ha : Sl .i32 w va a) (hb : Sl .i32 w vb b) : Calls Try.prog 4 #[va, vb, .int .i32 r] w fun e w' => e = .returned (.bool true) ∧ Below w.heap.size w w' := by
  have HK : Hid _ := And.intro (fun W : World => known_p W) (And.intro ha hb)
  obtain ⟨aa, ac, rfl, _⟩ := ha.len
  obtain ⟨ba, bc, rfl, _⟩ := hb.len
  clear ha hb
  by_cases h0 : 100 < a.length
  · have d : decide ((100 : Int) < (a.length : Int)) = true := by simp; omega
    go_enter Try.func4, Try.ntmps4
    go_wp2_with fail
    refine Calls.mono (HK.out.1 _) ?_
    rintro e w1 ⟨rfl, hb1⟩
    go_wp2_with fail
    go_ret
    exact ⟨rfl, hb1⟩
  have dh0 : decide ((100 : Int) < (a.length : Int)) = false := by simp; omega
  by_cases h1 : 100 < b.length
  · have d : decide ((100 : Int) < (b.length : Int)) = true := by simp; omega
    go_enter Try.func4, Try.ntmps4
    go_wp2_with fail
    refine Calls.mono (HK.out.1 _) ?_
    rintro e w1 ⟨rfl, hb1⟩
    go_wp2_with fail
    go_ret
    exact ⟨rfl, hb1⟩
  have dh1 : decide ((100 : Int) < (b.length : Int)) = false := by simp; omega
  by_cases h2 : r < 0
  · have d : decide (r < 0) = true := by simpa using h2
    go_enter Try.func4, Try.ntmps4
    go_wp2_with fail
    refine Calls.mono (HK.out.1 _) ?_
    rintro e w1 ⟨rfl, hb1⟩
    go_wp2_with fail
    go_ret
    exact ⟨rfl, hb1⟩
  have dh2 : decide (r < 0) = false := by simpa using h2
  by_cases h3 : 1114111 < r
  · have d : decide (1114111 < r) = true := by simpa using h3
    go_enter Try.func4, Try.ntmps4
    go_wp2_with fail
    refine Calls.mono (HK.out.1 _) ?_
    rintro e w1 ⟨rfl, hb1⟩
    go_wp2_with fail
    go_ret
    exact ⟨rfl, hb1⟩
  have dh3 : decide (1114111 < r) = false := by simpa using h3
  have ln0 : a.length ≤ 100 := by omega
  have ln1 : b.length ≤ 100 := by omega
  go_enter Try.func4, Try.ntmps4
  go_wp2_with fail
  refine Calls.mono (HK.out.1 _) ?_
  rintro e w1 ⟨rfl, hb1⟩
  have HB : Hid (Below w.heap.size w w1) := hb1
  clear hb1
  go_wp2_with fail
  refine Calls.mono (of_p _ a w1 (HK.out.2.1.below HB.out) (by omega)) ?_
  rintro e w2 ⟨vx, x, rfl, hx, ox, lx, hb2⟩
  obtain ⟨xa, xc, rfl⟩ := own_form ox
  have HB2 : Hid _ := HB.out.trans (hb2.mono HB.out.size)
  have HX : Hid _ := And.intro hx ox
  clear hb2 hx ox
  go_wp2_with fail
  refine Calls.mono (of_p _ b w2 (HK.out.2.2.below HB2.out) (by omega)) ?_
  rintro e w3 ⟨vy, y, rfl, hy, oy, ly, hb3⟩
  obtain ⟨ya, yc, rfl⟩ := own_form oy
  have HB3 : Hid _ := HB2.out.trans (hb3.mono HB2.out.size)
  have HY : Hid _ := And.intro hy (And.intro oy (HX.out.2.below hb3))
  clear hb3 hy oy
  have q3 := union_p _ _ x y w3 HY.out.2.2.sl HY.out.2.1.sl (by omega)
  have HQ3 : Hid _ := q3
  clear q3
  go_wp2_with fail
  refine Calls.mono HQ3.out ?_
  rintro e w4 ⟨vu, u, rfl, hu, ou, lu, hb4⟩
  obtain ⟨ua, uc, rfl⟩ := own_form ou
  have HB4 : Hid _ := HB3.out.trans (hb4.mono HB3.out.size)
  have HU : Hid _ := And.intro hu (And.intro ou (And.intro (HY.out.2.2.below hb4) (HY.out.2.1.below hb4)))
  clear hb4 hu ou
  have q4 := both_p _ _ x y w4 HU.out.2.2.1.sl HU.out.2.2.2.sl (by omega)
  have HQ4 : Hid _ := q4
  clear q4
  go_wp2_with fail
  refine Calls.mono HQ4.out ?_
  rintro e w5 ⟨vi, i, rfl, hi, oi, li, hb5⟩
  obtain ⟨ia, ic, rfl⟩ := own_form oi
  have HB5 : Hid _ := HB4.out.trans (hb5.mono HB4.out.size)
  have HI : Hid _ := And.intro (both_S HX.out.1.cn HY.out.1.cn hi) (And.intro oi (And.intro (HU.out.2.2.1.below hb5) (And.intro (HU.out.2.2.2.below hb5) (HU.out.2.1.below hb5))))
  clear hb5 hi oi
  have q5 := minus_p _ _ x y w5 HI.out.2.2.1.sl HI.out.2.2.2.1.sl HX.out.1.cn HY.out.1.cn (by omega)
  have HQ5 : Hid _ := q5
  clear q5
  go_wp2_with fail
  refine Calls.mono HQ5.out ?_
  rintro e w6 ⟨vm, m, n, rfl, hn, hm, om, lm, hb6⟩
  obtain ⟨ma, mc, rfl⟩ := own_form om
  have HB6 : Hid _ := HB5.out.trans (hb6.mono HB5.out.size)
  have cx := HX.out.1.cn
  have cy := HY.out.1.cn
  have z1 := sz_union cx cy HU.out.1 HI.out.1
  have z3 := sz_minus cx hn hm HI.out.1
  have zx := sz_in cx
  have zy := sz_in cy
  have zu := sz_in HU.out.1.cn
  have zi := sz_in HI.out.1.cn
  have zm := sz_in hm.cn
  have hM : MX = 1114111 := rfl
  have vu1 : memB u r = (memB x r || memB y r) := by rw [HU.out.1.mem, mem_app, decide_eq_true (by omega), Bool.and_true]
  have vi1 : memB i r = (memB x r && memB y r) := HI.out.1.mem r
  have vm1 : memB m r = (memB x r && !memB y r) := by rw [hm.mem, hn.mem, decide_eq_true (by omega), Bool.true_and]
  have fx := fun (W' : World) (hb : Below w6.heap.size w6 W') => (HI.out.2.2.1.below hb6).sl.below hb
  have fy := fun (W' : World) (hb : Below w6.heap.size w6 W') => (HI.out.2.2.2.1.below hb6).sl.below hb
  have fu := fun (W' : World) (hb : Below w6.heap.size w6 W') => (HI.out.2.2.2.2.below hb6).sl.below hb
  have fi := fun (W' : World) (hb : Below w6.heap.size w6 W') => (HI.out.2.1.below hb6).sl.below hb
  have fm := fun (W' : World) (hb : Below w6.heap.size w6 W') => om.sl.below hb
  have pxH := fun (W' : World) (hb : Below w6.heap.size w6 W') => has_p _ x r W' (fx W' hb) cx (by omega)
  have pyH := fun (W' : World) (hb : Below w6.heap.size w6 W') => has_p _ y r W' (fy W' hb) cy (by omega)
  have puH := fun (W' : World) (hb : Below w6.heap.size w6 W') => has_p _ u r W' (fu W' hb) HU.out.1.cn (by omega)
  have piH := fun (W' : World) (hb : Below w6.heap.size w6 W') => has_p _ i r W' (fi W' hb) HI.out.1.cn (by omega)
  have pmH := fun (W' : World) (hb : Below w6.heap.size w6 W') => has_p _ m r W' (fm W' hb) hm.cn (by omega)
  have pxZ := fun (W' : World) (hb : Below w6.heap.size w6 W') => size_p _ x W' (fx W' hb) cx (by omega)
  have pyZ := fun (W' : World) (hb : Below w6.heap.size w6 W') => size_p _ y W' (fy W' hb) cy (by omega)
  have puZ := fun (W' : World) (hb : Below w6.heap.size w6 W') => size_p _ u W' (fu W' hb) HU.out.1.cn (by omega)
  have piZ := fun (W' : World) (hb : Below w6.heap.size w6 W') => size_p _ i W' (fi W' hb) HI.out.1.cn (by omega)
  have pmZ := fun (W' : World) (hb : Below w6.heap.size w6 W') => size_p _ m W' (fm W' hb) hm.cn (by omega)
  have pxN := fun (W' : World) (hb : Below w6.heap.size w6 W') => not_p _ x W' (fx W' hb) cx (by omega)
  rw [vu1] at puH
  rw [vi1] at piH
  rw [vm1] at pmH
  have hnS : ∀ {k : List Rg}, NotS x k → memB k r = (!memB x r) ∧ sz x + sz k = 1114112 ∧ 0 ≤ sz k ∧ sz k ≤ 1114112 := fun hk => ⟨by rw [hk.mem, decide_eq_true (by omega), Bool.true_and], sz_not cx hk, (sz_in hk.cn).1, (sz_in hk.cn).2⟩
  obtain ⟨P, hP⟩ : ∃ P, memB x r = P := ⟨_, rfl⟩
  obtain ⟨Q, hQ⟩ : ∃ Q, memB y r = Q := ⟨_, rfl⟩
  obtain ⟨X, hX⟩ : ∃ X, sz x = X := ⟨_, rfl⟩
  obtain ⟨Y, hY⟩ : ∃ Y, sz y = Y := ⟨_, rfl⟩
  obtain ⟨U, hU⟩ : ∃ U, sz u = U := ⟨_, rfl⟩
  obtain ⟨I, hI⟩ : ∃ I, sz i = I := ⟨_, rfl⟩
  obtain ⟨M, hMM⟩ : ∃ M, sz m = M := ⟨_, rfl⟩
  rw [hX, hY, hU, hI] at z1
  rw [hMM, hI, hX] at z3
  rw [hX] at zx pxZ
  rw [hY] at zy pyZ
  rw [hU] at zu puZ
  rw [hI] at zi piZ
  rw [hMM] at zm pmZ
  rw [hP] at pxH puH piH pmH
  rw [hQ] at pyH puH piH pmH
  have hnS' : ∀ {k : List Rg}, NotS x k → memB k r = (!P) ∧ X + sz k = 1114112 ∧ 0 ≤ sz k ∧ sz k ≤ 1114112 := fun hk => by
    have := hnS hk
    rw [hP, hX] at this
    exact this
  have HP : Hid _ := And.intro (And.intro pxH (And.intro pyH (And.intro puH (And.intro piH pmH)))) (And.intro (And.intro pxZ (And.intro pyZ (And.intro puZ (And.intro piZ pmZ)))) (And.intro pxN fx))
  have HN : Hid (∀ {k : List Rg}, NotS x k → memB k r = (!P) ∧ X + sz k = 1114112 ∧ 0 ≤ sz k ∧ sz k ≤ 1114112) := hnS'
  have HCX : Hid _ := cx
  obtain ⟨LX, hLX⟩ : ∃ LX, x.length = LX := ⟨_, rfl⟩
  obtain ⟨LY, hLY⟩ : ∃ LY, y.length = LY := ⟨_, rfl⟩
  obtain ⟨LU, hLU⟩ : ∃ LU, u.length = LU := ⟨_, rfl⟩
  obtain ⟨LI, hLI⟩ : ∃ LI, i.length = LI := ⟨_, rfl⟩
  obtain ⟨LM, hLM⟩ : ∃ LM, m.length = LM := ⟨_, rfl⟩
  have hlx : LX ≤ 100 := by omega
  rw [hLX, hLY, hLU, hLI, hLM] at HP
  have HLX : Hid _ := hLX
  rw [hLX, hLY, hLU, hLI, hLM]
  clear hLX hLY hLU hLI hLM hP hQ hX hY hU hI hMM pxH pyH puH piH pmH pxZ pyZ puZ piZ pmZ pxN fx fy fu fi fm hnS hnS' cx cy vu1 vi1 vm1 hM lm om hn hm hb6 HQ3 HQ4 HQ5 lx ly lu li HX HY HU HI
  obtain ⟨zx0, zx1⟩ := zx
  obtain ⟨zy0, zy1⟩ := zy
  obtain ⟨zu0, zu1⟩ := zu
  obtain ⟨zi0, zi1⟩ := zi
  obtain ⟨zm0, zm1⟩ := zm
  have z1b : (X + Y == U + I) = true := by simpa using z1
  have z3b : (M + I == X) = true := by simpa using z3
  clear z1 z3
  have HC : Hid (Below w6.heap.size w6 w6) := Below.refl _ _
  go_wp2_with fail
  refine Calls.mono (HP.out.1.1 _ HC.out) ?_
  rintro e w7 ⟨rfl, hb7⟩
  have HC : Hid (Below w6.heap.size w6 w7) := HC.out.trans (hb7.mono HC.out.size)
  clear hb7
  go_wp2_with fail
  refine Calls.mono (HP.out.1.2.1 _ HC.out) ?_
  rintro e w8 ⟨rfl, hb8⟩
  have HC : Hid (Below w6.heap.size w6 w8) := HC.out.trans (hb8.mono HC.out.size)
  clear hb8
  cases P <;> cases Q
  all_goals
    go_wp2_with fail
    refine Calls.mono (HP.out.1.2.2.1 _ HC.out) ?_
    rintro e w9 ⟨rfl, hb9⟩
    have HC : Hid (Below w6.heap.size w6 w9) := HC.out.trans (hb9.mono HC.out.size)
    clear hb9
    go_wp2_with fail
    refine Calls.mono (HP.out.1.2.2.2.1 _ HC.out) ?_
    rintro e w10 ⟨rfl, hb10⟩
    have HC : Hid (Below w6.heap.size w6 w10) := HC.out.trans (hb10.mono HC.out.size)
    clear hb10
    go_wp2_with fail
    refine Calls.mono (HP.out.1.2.2.2.2 _ HC.out) ?_
    rintro e w11 ⟨rfl, hb11⟩
    have HC : Hid (Below w6.heap.size w6 w11) := HC.out.trans (hb11.mono HC.out.size)
    clear hb11
    go_wp2_with fail
    refine Calls.mono (HP.out.2.2.1 _ HC.out) ?_
    rintro e w12 ⟨v12, n12, rfl, hn12, on12, ln12, hb12⟩
    obtain ⟨a12, c12, rfl⟩ := own_form on12
    have HC : Hid (Below w6.heap.size w6 w12) := HC.out.trans (hb12.mono HC.out.size)
    obtain ⟨g1, g2, g3, g4⟩ := HN.out hn12
    have qh := has_p _ n12 r w12 on12.sl hn12.cn (by have := HLX.out; omega)
    rw [g1] at qh
    have HQ : Hid _ := qh
    clear qh g1 g2 g3 g4 hn12 on12 ln12 hb12
    go_wp2_with fail
    refine Calls.mono HQ.out ?_
    rintro e w13 ⟨rfl, hb13⟩
    have HC : Hid (Below w6.heap.size w6 w13) := HC.out.trans (hb13.mono HC.out.size)
    clear hb13 HQ
    go_wp2_with fail
    refine Calls.mono (HP.out.2.1.1 _ HC.out) ?_
    rintro e w14 ⟨rfl, hb14⟩
    have HC : Hid (Below w6.heap.size w6 w14) := HC.out.trans (hb14.mono HC.out.size)
    clear hb14
    go_wp2_with fail
    refine Calls.mono (HP.out.2.1.2.1 _ HC.out) ?_
    rintro e w15 ⟨rfl, hb15⟩
    have HC : Hid (Below w6.heap.size w6 w15) := HC.out.trans (hb15.mono HC.out.size)
    clear hb15
    go_wp2_with fail
    refine Calls.mono (HP.out.2.1.2.2.1 _ HC.out) ?_
    rintro e w16 ⟨rfl, hb16⟩
    have HC : Hid (Below w6.heap.size w6 w16) := HC.out.trans (hb16.mono HC.out.size)
    clear hb16
    go_wp2_with fail
    refine Calls.mono (HP.out.2.1.2.2.2.1 _ HC.out) ?_
    rintro e w17 ⟨rfl, hb17⟩
    have HC : Hid (Below w6.heap.size w6 w17) := HC.out.trans (hb17.mono HC.out.size)
    clear hb17
    go_wp2_with fail
    refine Calls.mono (HP.out.2.1.1 _ HC.out) ?_
    rintro e w18 ⟨rfl, hb18⟩
    have HC : Hid (Below w6.heap.size w6 w18) := HC.out.trans (hb18.mono HC.out.size)
    clear hb18
    go_wp2_with fail
    refine Calls.mono (HP.out.2.2.1 _ HC.out) ?_
    rintro e w19 ⟨v19, n19, rfl, hn19, on19, ln19, hb19⟩
    obtain ⟨a19, c19, rfl⟩ := own_form on19
    have HC : Hid (Below w6.heap.size w6 w19) := HC.out.trans (hb19.mono HC.out.size)
    obtain ⟨g1, g2, g3, g4⟩ := HN.out hn19
    have qh := size_p _ n19 w19 on19.sl hn19.cn (by have := HLX.out; omega)
    generalize sz n19 = NX at *
    have nb : (X + NX == 1114112) = true := by simpa using g2
    have HQ : Hid _ := qh
    clear qh g1 g2 hn19 on19 ln19 hb19
    go_wp2_with fail
    refine Calls.mono HQ.out ?_
    rintro e w20 ⟨rfl, hb20⟩
    have HC : Hid (Below w6.heap.size w6 w20) := HC.out.trans (hb20.mono HC.out.size)
    clear hb20 HQ
    go_wp2_with fail
    refine Calls.mono (HP.out.2.1.2.2.2.2 _ HC.out) ?_
    rintro e w21 ⟨rfl, hb21⟩
    have HC : Hid (Below w6.heap.size w6 w21) := HC.out.trans (hb21.mono HC.out.size)
    clear hb21
    go_wp2_with fail
    refine Calls.mono (HP.out.2.1.2.2.2.1 _ HC.out) ?_
    rintro e w22 ⟨rfl, hb22⟩
    have HC : Hid (Below w6.heap.size w6 w22) := HC.out.trans (hb22.mono HC.out.size)
    clear hb22
    go_wp2_with fail
    refine Calls.mono (HP.out.2.1.1 _ HC.out) ?_
    rintro e w23 ⟨rfl, hb23⟩
    have HC : Hid (Below w6.heap.size w6 w23) := HC.out.trans (hb23.mono HC.out.size)
    clear hb23
    go_wp2_with fail
    refine Calls.mono (HP.out.2.2.1 _ HC.out) ?_
    rintro e w24 ⟨v24, n24, rfl, hn24, on24, ln24, hb24⟩
    obtain ⟨a24, c24, rfl⟩ := own_form on24
    have HC : Hid (Below w6.heap.size w6 w24) := HC.out.trans (hb24.mono HC.out.size)
    obtain ⟨g1, g2, g3, g4⟩ := HN.out hn24
    have qh := not_p _ n24 w24 on24.sl hn24.cn (by have := HLX.out; omega)
    have HQ : Hid _ := And.intro qh (And.intro hn24 (by have := HLX.out; omega : n24.length ≤ 101))
    clear qh g1 g2 g3 g4 hn24 on24 ln24 hb24
    go_wp2_with fail
    refine Calls.mono HQ.out.1 ?_
    rintro e w25 ⟨v25, n25, rfl, hn25, on25, ln25, hb25⟩
    obtain ⟨a25, c25, rfl⟩ := own_form on25
    have HC : Hid (Below w6.heap.size w6 w25) := HC.out.trans (hb25.mono HC.out.size)
    have hnn := not_not HCX.out HQ.out.2.1 hn25
    have qs := same_p _ _ n25 x w25 on25.sl (HP.out.2.2.2 _ HC.out) (by have := HQ.out.2.2; omega) (by have := HLX.out; omega)
    rw [decide_eq_true hnn] at qs
    have HQQ : Hid _ := qs
    clear qs hnn hn25 on25 ln25 hb25 HQ
    go_wp2_with fail
    refine Calls.mono HQQ.out ?_
    rintro e w26 ⟨rfl, hb26⟩
    have HC : Hid (Below w6.heap.size w6 w26) := HC.out.trans (hb26.mono HC.out.size)
    clear hb26 HQQ
    go_wp2_with fail
    go_ret
    exact ⟨rfl, HB6.out.trans (HC.out.mono HB6.out.size)⟩
end Go.Proofs.Yteddjjabbehfdaa
