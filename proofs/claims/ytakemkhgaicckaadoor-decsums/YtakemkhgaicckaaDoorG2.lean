/- DecSums: the walk. -/
import Derived.Test.YtakemkhgaicckaaDoorG1
import Derived.Test.YtakemkhgaicckaaDoorM1
import Derived.Test.YtakemkhgaicckaaDoorC6s
import Derived.Test.YtakemkhgaicckaaDoorC7
import Derived.Deep.RegionHeld3
namespace Go.Proofs.YtakemkhgaicckaaDoor
open Go.RowKit
set_option linter.unusedVariables false
set_option linter.unusedSimpArgs false

theorem ref_int (n : Int) (w : World) (h0 : -9223372036854775808 ≤ n) (h1 : n ≤ 9223372036854775807) : Calls Tryd.prog 7 #[.int .i64 n] w fun e w' => ∃ a c, e = .returned (nmV (inS n).1 (.slice a (inS n).2.1.length c) (inS n).2.2) ∧ BtR w' (.slice a (inS n).2.1.length c) (inS n).2.1 ∧ Below w.heap.size w w' := by
  refine Calls.mono (int_r n w h0 h1) ?_
  rintro e w' ⟨rv, rfl, hbt, _, hb⟩
  obtain ⟨a, c, rfl, _⟩ := hbt.form
  exact ⟨a, c, rfl, hbt, hb⟩
theorem nat20 {n : Int} (h0 : -9223372036854775808 ≤ n) (h1 : n ≤ 9223372036854775807) : n.natAbs < 10 ^ 20 := by
  have : (10 : Nat) ^ 20 = 100000000000000000000 := by decide
  omega
theorem nat19 {n : Int} (h0 : -1099511627776 < n) (h1 : n < 1099511627776) : n.natAbs < 10 ^ 19 := by
  have : (10 : Nat) ^ 19 = 10000000000000000000 := by decide
  omega
theorem in_short (n : Int) (h0 : -9223372036854775808 ≤ n) (h1 : n ≤ 9223372036854775807) : (inS n).2.1.length ≤ 1000 ∧ (inS n).2.2 = 0 ∧ CN (inS n) := by
  have hp := par_ok (par_itoa n h0 h1)
  have hb := nat20 h0 h1
  have h := (dd_ok 19 n.natAbs hb).2.2.2
  refine ⟨?_, (in_ok n hb).2.1, hp.1⟩
  have hl : (Lib.itoa n).length ≤ 21 := by
    have e : (Lib.decDigits n.natAbs).length = (ddS n.natAbs).length := by unfold ddS; simp
    unfold Lib.itoa
    split
    · simp only [List.length_cons]
      omega
    · have e2 : n.toNat = n.natAbs := by omega
      rw [e2]
      omega
  have := hp.2.1
  simp only [List.length_map] at this
  omega
set_option maxRecDepth 100000 in
set_option maxHeartbeats 12800000 in
theorem sums_s (s t : ByteArray) (n m : Int) (w : World) (hs : s.size ≤ maxLen) (ht : t.size ≤ maxLen) (hn0 : -9223372036854775808 ≤ n) (hn1 : n ≤ 9223372036854775807) (hm0 : -9223372036854775808 ≤ m) (hm1 : m ≤ 9223372036854775807) (htab : Tab w) : Calls Tryd.prog 3 #[.string s, .string t, .int .i64 n, .int .i64 m] w fun e w' => e = .returned (.bool true) ∧ Below w.heap.size w w' := by
  unfold maxLen at hs ht
  have HT : Hid _ := And.intro htab trivial
  clear htab
  by_cases hsb : 600 < (s.size : Int)
  · go_enter Tryd.func3, Tryd.ntmps3
    go_wp2_with (first | (go_at_call 4; refine Calls.mono (known_s prg _) ?_; rintro e w0 ⟨rfl, hb0⟩))
    go_ret
    exact ⟨rfl, hb0⟩
  by_cases htb : 600 < (t.size : Int)
  · go_enter Tryd.func3, Tryd.ntmps3
    go_wp2_with (first | (go_at_call 4; refine Calls.mono (known_s prg _) ?_; rintro e w0 ⟨rfl, hb0⟩))
    go_ret
    exact ⟨rfl, hb0⟩
  obtain ⟨lP, zP', cP'⟩ := in_short n hn0 hn1
  obtain ⟨lQ, zQ', cQ'⟩ := in_short m hm0 hm1
  have hcm := in_cmp (nat20 hn0 hn1) (nat20 hm0 hm1)
  have hip := fun W h => int_p n hn0 hn1 W h
  have hiq := fun W h => int_p m hm0 hm1 W h
  have hir := fun W => ref_int n W hn0 hn1
  have hsum : -1099511627776 < n → n < 1099511627776 → -1099511627776 < m → m < 1099511627776 → cmpS (smS (inS n) (inS m)) (inS (n + m)) = 0 := fun a b c d => in_sum (nat19 a b) (nat19 c d)
  obtain ⟨nP, hnP⟩ : ∃ x, inS n = x := ⟨_, rfl⟩
  obtain ⟨nQ, hnQ⟩ : ∃ x, inS m = x := ⟨_, rfl⟩
  rw [hnP] at lP zP' cP' hcm hip hir hsum
  rw [hnQ] at lQ zQ' cQ' hcm hiq hsum
  have HI : Hid _ := And.intro hip (And.intro hiq (And.intro hir (And.intro hcm (And.intro hsum (And.intro zP' (And.intro cP' cQ'))))))
  clear hip hiq hir hcm hsum zP' zQ' cP' cQ' hnP hnQ
  go_enter Tryd.func3, Tryd.ntmps3
  go_wp2_with (first | (go_at_call 4; refine Calls.mono (known_s prg _) ?_; rintro e w0 ⟨rfl, hb0⟩))
  have HB0 : Hid _ := hb0
  clear hb0
  refine Calls.mono (HI.out.1 _ (HT.out.1.below HB0.out)) ?_
  rintro e w1 ⟨a1, c1, rfl, hn, hb⟩
  obtain ⟨hx, hba⟩ := BxN.mk' (t := 25) hn
  have hbU := hb.trans (hba.mono hb.size)
  have H : Hid _ := And.intro hx (HB0.out.trans (hbU.mono HB0.out.size))
  clear hn hb hx hba hbU HB0
  go_wp2_with fail
  generalize (w1.alloc (.cells #[.bool nP.1, .slice a1 nP.2.1.length c1, .int .i64 nP.2.2] 25)) = U1 at *
  refine Calls.mono (HI.out.2.1 _ (HT.out.1.below H.out.2)) ?_
  rintro e w2 ⟨a2, c2, rfl, hn, hb⟩
  obtain ⟨hx, hba⟩ := BxN.mk' (t := 25) hn
  have hbU := hb.trans (hba.mono hb.size)
  have H2 : Hid _ := And.intro (H.out.1.below hbU) (And.intro hx (H.out.2.trans (hbU.mono H.out.2.size)))
  clear hn hb hx hba hbU H
  go_upto_region 7 with fail
  generalize (w2.alloc (.cells #[.bool nQ.1, .slice a2 nQ.2.1.length c2, .int .i64 nQ.2.2] 25)) = U2 at *
  have HB : Hid (Below U2.heap.size U2 U2.drew) := Below.drewN' 1
  have hkp : ∀ W, Below U2.heap.size U2 W → (W.cell? ⟨w1.heap.size, 0, none⟩ = some (.bool nP.1) ∧ W.cell? ⟨w1.heap.size, 1, none⟩ = some (.slice a1 nP.2.1.length c1) ∧ W.cell? ⟨w1.heap.size, 2, none⟩ = some (.int .i64 nP.2.2)) ∧ (W.cell? ⟨w2.heap.size, 0, none⟩ = some (.bool nQ.1) ∧ W.cell? ⟨w2.heap.size, 1, none⟩ = some (.slice a2 nQ.2.1.length c2) ∧ W.cell? ⟨w2.heap.size, 2, none⟩ = some (.int .i64 nQ.2.2)) := fun W hb => ⟨boxK H2.out.1.bx W hb, boxK H2.out.2.1.bx W hb⟩
  have HKP : Hid _ := hkp
  obtain ⟨⟨g00, g01, g02⟩, ⟨g10, g11, g12⟩⟩ := hkp U2 (Below.refl _ _)
  clear hkp
  obtain ⟨k, hk⟩ : ∃ k, cmpS nP nQ = k := ⟨_, rfl⟩
  have hk1 : decide (k < 0) = decide (n < m) := by
    rw [← hk, Bool.eq_iff_iff]
    simp only [decide_eq_true_eq]
    exact HI.out.2.2.2.1.1
  have hk2 : (k == 0) = (n == m) := by
    rw [← hk, Bool.eq_iff_iff]
    simp only [beq_iff_eq]
    exact HI.out.2.2.2.1.2
  have q1 := fun W (hb : Below U2.heap.size U2 W) => prg.whole (H2.out.1.below hb).nm
  rw [decide_eq_true HI.out.2.2.2.2.2.1] at q1
  have q2 := fun W (hb : Below U2.heap.size U2 W) => cmp_as prg (H2.out.1.below hb).nm (H2.out.2.1.below hb).nm hk
  have q3 := fun W (hb : Below U2.heap.size U2 W) {v : Value} (h : BtR W v nP.2.1) => same_s (H2.out.1.below hb).nm.bt h nP.1 nP.2.2
  have HC : Hid _ := And.intro q1 (And.intro q2 q3)
  clear q1 q2 q3 hk
  go_cut [66] (fun v wx => v = .bool false ∧ Below U2.heap.size U2 wx)
  case first =>
    go_region_held3 (fun W => W.cell? ⟨w1.heap.size, 0, none⟩ = some (.bool nP.1) ∧ W.cell? ⟨w1.heap.size, 1, none⟩ = some (.slice a1 nP.2.1.length c1) ∧ W.cell? ⟨w1.heap.size, 2, none⟩ = some (.int .i64 nP.2.2) ∧ W.cell? ⟨w2.heap.size, 0, none⟩ = some (.bool nQ.1) ∧ W.cell? ⟨w2.heap.size, 1, none⟩ = some (.slice a2 nQ.2.1.length c2) ∧ W.cell? ⟨w2.heap.size, 2, none⟩ = some (.int .i64 nQ.2.2)) (exact ⟨g00, g01, g02, g10, g11, g12⟩) (first
      | (go_at_call 7; (with_reducible refine Calls.mono (HI.out.2.2.1 _) ?_); rintro e w9 ⟨ra, rc, rfl, hri, hb9⟩; have HRI : Hid _ := And.intro hri trivial; clear hri; have hbb := HB.out.trans (hb9.mono HB.out.size); clear HB g00 g01 g02 g10 g11 g12; obtain ⟨⟨g00, g01, g02⟩, ⟨g10, g11, g12⟩⟩ := HKP.out _ hbb; have HB : Hid _ := hbb; clear hbb hb9)
      | (go_at_call 6; (with_reducible refine Calls.mono (HC.out.2.2 _ HB.out HRI.out.1) ?_); rintro e w9 ⟨rfl, hb9⟩; have hbb := HB.out.trans (hb9.mono HB.out.size); clear HB g00 g01 g02 g10 g11 g12; obtain ⟨⟨g00, g01, g02⟩, ⟨g10, g11, g12⟩⟩ := HKP.out _ hbb; have HB : Hid _ := hbb; clear hbb hb9)
      | (go_at_call 8; (with_reducible refine Calls.mono (HC.out.1 _ HB.out) ?_); rintro e w9 ⟨rfl, hb9⟩; have hbb := HB.out.trans (hb9.mono HB.out.size); clear HB g00 g01 g02 g10 g11 g12; obtain ⟨⟨g00, g01, g02⟩, ⟨g10, g11, g12⟩⟩ := HKP.out _ hbb; have HB : Hid _ := hbb; clear hbb hb9)
      | (go_at_call 9; (with_reducible refine Calls.mono (HC.out.2.1 _ HB.out) ?_); rintro e w9 ⟨rfl, hb9⟩; have hbb := HB.out.trans (hb9.mono HB.out.size); clear HB g00 g01 g02 g10 g11 g12; obtain ⟨⟨g00, g01, g02⟩, ⟨g10, g11, g12⟩⟩ := HKP.out _ hbb; have HB : Hid _ := hbb; clear hbb hb9))
    all_goals
      go_wp2_with fail
      go_meet
      case rel => exact ⟨by simp [hk1, hk2], HB.out⟩
  case rest =>
    obtain ⟨rfl, hbc⟩ := hcut
    have H3 : Hid _ := And.intro (H2.out.1.below hbc) (And.intro (H2.out.2.1.below hbc) (H2.out.2.2.trans (hbc.mono H2.out.2.2.size)))
    clear g00 g01 g02 g10 g11 g12 HB HKP HC hbc H2 hk1 hk2
    go_upto_region 9 with fail
    go_cut [80] (fun v wx => v = .bool (decide (-1099511627776 < n ∧ n < 1099511627776 ∧ -1099511627776 < m ∧ m < 1099511627776)) ∧ wx = wc)
    case first =>
      by_cases b1 : -1099511627776 < n
      · by_cases b2 : n < 1099511627776
        · by_cases b3 : -1099511627776 < m
          · by_cases b4 : m < 1099511627776
            · go_wp2_with fail
              go_meet
              case rel => exact ⟨by rw [decide_eq_true (show -1099511627776 < n ∧ n < 1099511627776 ∧ -1099511627776 < m ∧ m < 1099511627776 from ⟨b1, b2, b3, b4⟩)], rfl⟩
            · go_wp2_with fail
              go_meet
              case rel => exact ⟨by rw [decide_eq_false (fun q => by omega)], rfl⟩
          · go_wp2_with fail
            go_meet
            case rel => exact ⟨by rw [decide_eq_false (fun q => by omega)], rfl⟩
        · go_wp2_with fail
          go_meet
          case rel => exact ⟨by rw [decide_eq_false (fun q => by omega)], rfl⟩
      · go_wp2_with fail
        go_meet
        case rel => exact ⟨by rw [decide_eq_false (fun q => by omega)], rfl⟩
    case rest =>
      obtain ⟨rfl, rfl⟩ := hcut
      go_upto_if 80 with fail
      go_cut [] (fun wx => Below wc.heap.size wc wx)
      case first =>
        by_cases hib : -1099511627776 < n ∧ n < 1099511627776 ∧ -1099511627776 < m ∧ m < 1099511627776
        · have hdb := decide_eq_true hib
          obtain ⟨b1, b2, b3, b4⟩ := hib
          have hsm := HI.out.2.2.2.2.1 b1 b2 b3 b4
          have hnm0 : -9223372036854775808 ≤ n + m := by omega
          have hnm1 : n + m ≤ 9223372036854775807 := by omega
          obtain ⟨k10, k11, k12⟩ := bl3 H3.out.1.bx
          obtain ⟨k20, k21, k22⟩ := bl3 H3.out.2.1.bx
          rw [hdb]
          go_wp2_with fail
          refine Calls.mono (add_n prg H3.out.1.nm H3.out.2.1.nm (by omega) (by omega)) ?_
          rintro e w5 ⟨a5, c5, rfl, hn, hb⟩
          obtain ⟨nX, hnX⟩ : ∃ x, smS nP nQ = x := ⟨_, rfl⟩
          rw [hnX] at hn hsm
          rw [hnX]
          obtain ⟨hx, hba⟩ := BxN.mk' (t := 25) hn
          have hbU := hb.trans (hba.mono hb.size)
          have H5 : Hid _ := And.intro hx (And.intro hbU (And.intro (HT.out.1.below (H3.out.2.2.trans (hbU.mono H3.out.2.2.size))) hsm))
          clear hn hb hx hba hbU hnX hsm k10 k11 k12 k20 k21 k22
          go_upto_region 11 with fail
          generalize (w5.alloc (.cells #[.bool nX.1, .slice a5 nX.2.1.length c5, .int .i64 nX.2.2] 25)) = U5 at *
          have HB : Hid (Below U5.heap.size U5 U5.drew) := Below.drewN' 1
          have hkp : ∀ W, Below U5.heap.size U5 W → (W.cell? ⟨w5.heap.size, 0, none⟩ = some (.bool nX.1) ∧ W.cell? ⟨w5.heap.size, 1, none⟩ = some (.slice a5 nX.2.1.length c5) ∧ W.cell? ⟨w5.heap.size, 2, none⟩ = some (.int .i64 nX.2.2)) := fun W hb => boxK H5.out.1.bx W hb
          have HKP : Hid _ := hkp
          obtain ⟨g00, g01, g02⟩ := hkp U5 (Below.refl _ _)
          clear hkp
          have q1 := fun W (hb : Below U5.heap.size U5 W) => int_p (n + m) hnm0 hnm1 W (H5.out.2.2.1.below hb)
          have HC : Hid _ := And.intro q1 H5.out.2.2.2
          clear q1
          obtain ⟨nS, hnS⟩ : ∃ x, inS (n + m) = x := ⟨_, rfl⟩
          rw [hnS] at HC
          clear hnS
          have hwr : IntKind.i64.wrap (n + m) = n + m := by rw [IntKind.wrap_i64]; omega
          go_region_held3 (fun W => W.cell? ⟨w5.heap.size, 0, none⟩ = some (.bool nX.1) ∧ W.cell? ⟨w5.heap.size, 1, none⟩ = some (.slice a5 nX.2.1.length c5) ∧ W.cell? ⟨w5.heap.size, 2, none⟩ = some (.int .i64 nX.2.2)) (exact ⟨g00, g01, g02⟩) (first
            | (go_at_call 5; (with_reducible refine Calls.mono (HC.out.1 _ HB.out) ?_); rintro e w9 ⟨sa, sc, rfl, hsn, hb9⟩; have HSN : Hid _ := And.intro hsn trivial; clear hsn; have hbb := HB.out.trans (hb9.mono HB.out.size); clear HB g00 g01 g02; obtain ⟨g00, g01, g02⟩ := HKP.out _ hbb; have HB : Hid _ := hbb; clear hbb hb9)
            | (go_at_call 9; (with_reducible refine Calls.mono (cmp_as prg (H5.out.1.below HB.out).nm HSN.out.1 HC.out.2) ?_); rintro e w9 ⟨rfl, hb9⟩; have hbb := HB.out.trans (hb9.mono HB.out.size); clear HB g00 g01 g02; obtain ⟨g00, g01, g02⟩ := HKP.out _ hbb; have HB : Hid _ := hbb; clear hbb hb9))
          all_goals
            go_wp2_with fail
            go_meet
            case rel => exact H5.out.2.1.trans (HB.out.mono H5.out.2.1.size)
        · have hdb := decide_eq_false hib
          rw [hdb]
          go_wp2_with fail
          go_meet
          case rel => exact Below.refl _ _
      case rest =>
        rename_i wd
        have HW : Hid _ := H3.out.2.2.trans (hcut.mono H3.out.2.2.size)
        clear hcut H3 HI
        go_wp2_with fail
        refine Calls.mono (parse_n prg s _ (by omega)) ?_
        rintro e w6 ⟨hb, hr⟩
        have hbb := HW.out.trans (hb.mono HW.out.size)
        rcases hr with ⟨nA, a6, c6, hp, hlnA, rfl, hn⟩ | ⟨x, a6, c6, hx, hp, rfl, hbt⟩
        case' inr =>
          have hxn : ¬ x = 0 := by omega
          have hxb : (x == 0) = false := by simpa using hxn
          have hxc : (x != 0) = true := by simpa using hxn
          clear hp hbt hx hb
          have HB1 : Hid _ := hbb
          clear hbb
          go_wp2_with fail
          refine Calls.mono (parse_any prg t _ (by omega)) ?_
          rintro e wz ⟨zb, za, zn, zc, zz, zx, rfl, hbz⟩
          have hbb := (HB1.out.alloc HB1.out.size _).trans (hbz.mono (le_alloc HB1.out.size _))
          have HB1 : Hid _ := hbb
          clear hbb hbz
          go_wp2_with fail
          go_ret
          exact ⟨rfl, HB1.out.alloc HB1.out.size _⟩
        obtain ⟨hx1, hba1⟩ := BxN.mk' (t := 25) hn
        have hbU := hb.trans (hba1.mono hb.size)
        have H : Hid _ := And.intro hx1 (HW.out.trans (hbU.mono HW.out.size))
        have HW : Hid _ := H.out.2
        clear hb hbb hn hx1 hba1 hbU hp
        go_wp2_with fail
        generalize (w6.alloc (.cells #[.bool nA.1, .slice a6 nA.2.1.length c6, .int .i64 nA.2.2] 25)) = U6 at *
        refine Calls.mono (parse_n prg t _ (by omega)) ?_
        rintro e w7 ⟨hb, hr⟩
        have hbb := HW.out.trans (hb.mono HW.out.size)
        rcases hr with ⟨nB, a7, c7, hp, hlnB, rfl, hn⟩ | ⟨x, a7, c7, hx, hp, rfl, hbt⟩
        case' inr =>
          have hxn : ¬ x = 0 := by omega
          have hxb : (x == 0) = false := by simpa using hxn
          have hxc : (x != 0) = true := by simpa using hxn
          clear hp hbt hx hb
          have HB1 : Hid _ := hbb
          clear hbb
          go_wp2_with fail
          go_ret
          exact ⟨rfl, HB1.out.alloc HB1.out.size _⟩
        obtain ⟨hx1, hba1⟩ := BxN.mk' (t := 25) hn
        have hbU := hb.trans (hba1.mono hb.size)
        have H2 : Hid _ := And.intro (H.out.1.below hbU) (And.intro hx1 (HW.out.trans (hbU.mono HW.out.size)))
        clear hb hbb hn hx1 hba1 hbU hp H HW
        go_upto_region 17 with fail
        obtain ⟨k10, k11, k12⟩ := bl3 H2.out.1.bx
        obtain ⟨k20, k21, k22⟩ := bl3 H2.out.2.1.bx
        generalize (w7.alloc (.cells #[.bool nB.1, .slice a7 nB.2.1.length c7, .int .i64 nB.2.2] 25)) = U7 at *
        have hlt1 := lt_of H2.out.1.bx
        go_wp2_with fail
        refine Calls.mono (add_n prg H2.out.1.nm H2.out.2.1.nm (by omega) (by omega)) ?_
        rintro e w8 ⟨a8, c8, rfl, hn, hb⟩
        have hlnC := sm_len H2.out.1.nm.cn H2.out.2.1.nm.cn (N := 600) hlnA hlnB
        have hless := sm_less H2.out.1.nm.cn H2.out.2.1.nm.cn
        have hopp := sm_opp H2.out.1.nm.cn
        obtain ⟨nC, hnC⟩ : ∃ x, smS nA nB = x := ⟨_, rfl⟩
        rw [hnC] at hn hlnC hless
        rw [hnC]
        obtain ⟨hx1, hba1⟩ := BxN.mk' (t := 25) hn
        have hbU := hb.trans (hba1.mono hb.size)
        have H3 : Hid _ := And.intro (H2.out.1.below hbU) (And.intro (H2.out.2.1.below hbU) (And.intro hx1 (H2.out.2.2.trans (hbU.mono H2.out.2.2.size))))
        have HQ : Hid _ := And.intro hless hopp
        clear hn hb hx1 hba1 hbU hnC hless hopp H2 k10 k11 k12 k20 k21 k22 hlt1
        go_upto_region 18 with fail
        generalize (w8.alloc (.cells #[.bool nC.1, .slice a8 nC.2.1.length c8, .int .i64 nC.2.2] 25)) = U8 at *
        have HB : Hid (Below U8.heap.size U8 U8.drew) := Below.drewN' 1
        have hkp : ∀ W, Below U8.heap.size U8 W → (W.cell? ⟨w6.heap.size, 0, none⟩ = some (.bool nA.1) ∧ W.cell? ⟨w6.heap.size, 1, none⟩ = some (.slice a6 nA.2.1.length c6) ∧ W.cell? ⟨w6.heap.size, 2, none⟩ = some (.int .i64 nA.2.2)) ∧ (W.cell? ⟨w7.heap.size, 0, none⟩ = some (.bool nB.1) ∧ W.cell? ⟨w7.heap.size, 1, none⟩ = some (.slice a7 nB.2.1.length c7) ∧ W.cell? ⟨w7.heap.size, 2, none⟩ = some (.int .i64 nB.2.2)) ∧ (W.cell? ⟨w8.heap.size, 0, none⟩ = some (.bool nC.1) ∧ W.cell? ⟨w8.heap.size, 1, none⟩ = some (.slice a8 nC.2.1.length c8) ∧ W.cell? ⟨w8.heap.size, 2, none⟩ = some (.int .i64 nC.2.2)) := fun W hb => ⟨boxK H3.out.1.bx W hb, boxK H3.out.2.1.bx W hb, boxK H3.out.2.2.1.bx W hb⟩
        have HKP : Hid _ := hkp
        obtain ⟨⟨g00, g01, g02⟩, ⟨g10, g11, g12⟩, ⟨g20, g21, g22⟩⟩ := hkp U8 (Below.refl _ _)
        clear hkp
        have hne : ∀ W, Below U8.heap.size U8 W → W.heap.size ≠ w6.heap.size ∧ W.heap.size ≠ w7.heap.size ∧ W.heap.size ≠ w8.heap.size ∧ w6.heap.size ≠ W.heap.size ∧ w7.heap.size ≠ W.heap.size ∧ w8.heap.size ≠ W.heap.size := fun W hb => by
          have e1 := lt_of H3.out.1.bx
          have e2 := lt_of H3.out.2.1.bx
          have e3 := lt_of H3.out.2.2.1.bx
          have e0 := hb.size
          refine ⟨?_, ?_, ?_, ?_, ?_, ?_⟩ <;> omega
        have HNE : Hid _ := hne
        have HBZ : Hid (Below U8.heap.size U8 (U8.alloc (.cells #[.bool false, .slice none 0 0, .int .i64 0] 25)).drew) := ((Below.refl U8.heap.size U8).alloc (Nat.le_refl _) (.cells #[.bool false, .slice none 0 0, .int .i64 0] 25)).trans ((Below.drewN' (w := U8.alloc (.cells #[.bool false, .slice none 0 0, .int .i64 0] 25)) 1).mono (Nat.le_of_lt (lt_alloc _ _)))
        obtain ⟨ne0, ne1, ne2, ne3, ne4, ne5⟩ := hne U8.drew HB.out
        obtain ⟨nu0, nu1, nu2, nu3, nu4, nu5⟩ := hne U8 (Below.refl _ _)
        clear hne
        have q1 := fun W (hb : Below U8.heap.size U8 W) => neg_n prg (H3.out.2.1.below hb).nm
        have q2 := fun W (hb : Below U8.heap.size U8 W) {v : Value} (h : NmR W v (ngS nB)) => add_n prg (H3.out.2.2.1.below hb).nm h (by omega) (by show nB.2.1.length ≤ 1300; omega)
        rw [HQ.out.1] at q2
        have HC : Hid _ := And.intro q1 q2
        clear q1 q2
        go_cut [19, 20] (fun v19 v20 wx => ∃ (T4 : Nat) (a4 : Option Addr) (c4 : Nat), v19 = .pointer (some ⟨T4, 0, none⟩) ∧ v20 = .int .i64 0 ∧ BxN wx T4 25 nA a4 c4 ∧ Below U8.heap.size U8 wx)
        case first =>
          go_region_held3 (fun W => W.cell? ⟨w6.heap.size, 0, none⟩ = some (.bool nA.1) ∧ W.cell? ⟨w6.heap.size, 1, none⟩ = some (.slice a6 nA.2.1.length c6) ∧ W.cell? ⟨w6.heap.size, 2, none⟩ = some (.int .i64 nA.2.2) ∧ W.cell? ⟨w7.heap.size, 0, none⟩ = some (.bool nB.1) ∧ W.cell? ⟨w7.heap.size, 1, none⟩ = some (.slice a7 nB.2.1.length c7) ∧ W.cell? ⟨w7.heap.size, 2, none⟩ = some (.int .i64 nB.2.2) ∧ W.cell? ⟨w8.heap.size, 0, none⟩ = some (.bool nC.1) ∧ W.cell? ⟨w8.heap.size, 1, none⟩ = some (.slice a8 nC.2.1.length c8) ∧ W.cell? ⟨w8.heap.size, 2, none⟩ = some (.int .i64 nC.2.2)) (first | exact ⟨g00, g01, g02, g10, g11, g12, g20, g21, g22⟩ | go_keep) (first
            | (go_at_call 12; (with_reducible refine Calls.mono (HC.out.1 _ HB.out) ?_); rintro e w9 ⟨ga, gc, rfl, hng, hb9⟩; have HNG : Hid _ := And.intro hng trivial; clear hng; have hbb := HB.out.trans (hb9.mono HB.out.size); obtain ⟨⟨g00, g01, g02⟩, ⟨g10, g11, g12⟩, ⟨g20, g21, g22⟩⟩ := HKP.out _ hbb; have HB : Hid _ := hbb; obtain ⟨ne0, ne1, ne2, ne3, ne4, ne5⟩ := HNE.out _ HB.out; clear hbb hb9)
            | (go_at_call 12; (with_reducible refine Calls.mono (HC.out.1 _ HBZ.out) ?_); rintro e w9 ⟨ga, gc, rfl, hng, hb9⟩; have HNG : Hid _ := And.intro hng trivial; clear hng; have hbb := HBZ.out.trans (hb9.mono HBZ.out.size); obtain ⟨⟨g00, g01, g02⟩, ⟨g10, g11, g12⟩, ⟨g20, g21, g22⟩⟩ := HKP.out _ hbb; have HZ : Hid _ := (hb9.block U8.heap.size (lt_alloc U8 (.cells #[.bool false, .slice none 0 0, .int .i64 0] 25))).trans (nw_heap U8 (.cells #[.bool false, .slice none 0 0, .int .i64 0] 25)); obtain ⟨z0, z1, z2⟩ := bl3 HZ.out; obtain ⟨zf0, zf1, zf2⟩ := bl3f HZ.out; have HB : Hid _ := hbb; obtain ⟨ne0, ne1, ne2, ne3, ne4, ne5⟩ := HNE.out _ HB.out; clear hbb hb9)
            | (go_at_call 10; (with_reducible refine Calls.mono (HC.out.2 _ HB.out HNG.out.1) ?_); rintro e w9 ⟨a4, c4, rfl, hn4, hb9⟩; have HN4 : Hid _ := And.intro hn4 trivial; clear hn4; have hbb := HB.out.trans (hb9.mono HB.out.size); obtain ⟨⟨g00, g01, g02⟩, ⟨g10, g11, g12⟩, ⟨g20, g21, g22⟩⟩ := HKP.out _ hbb; (first | (have HZ : Hid _ := (hb9.block _ (lt_of HZ.out)).trans HZ.out; obtain ⟨z0, z1, z2⟩ := bl3 HZ.out; obtain ⟨zf0, zf1, zf2⟩ := bl3f HZ.out) | skip); have HB : Hid _ := hbb; obtain ⟨ne0, ne1, ne2, ne3, ne4, ne5⟩ := HNE.out _ HB.out; clear hbb hb9)
            | (go_at_call 10; (with_reducible refine Calls.mono (HC.out.2 _ (HB.out.alloc HB.out.size (.cells #[.bool false, .slice none 0 0, .int .i64 0] 25)) (HNG.out.1.below ((Below.refl _ _).alloc (Nat.le_refl _) (.cells #[.bool false, .slice none 0 0, .int .i64 0] 25)))) ?_); rintro e w9 ⟨a4, c4, rfl, hn4, hb9⟩; have HN4 : Hid _ := And.intro hn4 trivial; clear hn4; have hbb := (HB.out.alloc HB.out.size (.cells #[.bool false, .slice none 0 0, .int .i64 0] 25)).trans (hb9.mono (le_alloc HB.out.size _)); have HT4 : Hid _ := And.intro HB.out.size trivial; obtain ⟨⟨g00, g01, g02⟩, ⟨g10, g11, g12⟩, ⟨g20, g21, g22⟩⟩ := HKP.out _ hbb; have HZ : Hid _ := (hb9.block _ (lt_alloc _ _)).trans (nw_heap _ (.cells #[.bool false, .slice none 0 0, .int .i64 0] 25)); obtain ⟨z0, z1, z2⟩ := bl3 HZ.out; obtain ⟨zf0, zf1, zf2⟩ := bl3f HZ.out; have HB : Hid _ := hbb; obtain ⟨ne0, ne1, ne2, ne3, ne4, ne5⟩ := HNE.out _ HB.out; clear hbb hb9))
          all_goals
            go_wp2_with fail
            go_meet
            case rel =>
              first
                | (obtain ⟨z, hz⟩ := BxN.mk' (t := 25) HN4.out.1; exact ⟨_, a4, c4, rfl, rfl, z, HB.out.trans (hz.mono HB.out.size)⟩)
                | (obtain ⟨z, hz⟩ := BxN.stored HN4.out.1 HZ.out U8.heap.size (by first | exact HT4.out.1 | exact Nat.le_refl _); exact ⟨_, a4, c4, rfl, rfl, z, HB.out.trans hz⟩)
        case rest =>
          obtain ⟨TD, aD, cD, rfl, rfl, hxD, hbD⟩ := hcut
          have H4 : Hid _ := And.intro (H3.out.1.below hbD) (And.intro hxD (H3.out.2.2.2.trans (hbD.mono H3.out.2.2.2.size)))
          clear hxD hbD H3 HB HKP HNE HBZ HC g00 g01 g02 g10 g11 g12 g20 g21 g22 ne0 ne1 ne2 ne3 ne4 ne5 nu0 nu1 nu2 nu3 nu4 nu5
          obtain ⟨WD, hWD⟩ : ∃ W, W = wc := ⟨_, rfl⟩
          subst hWD
          go_upto_region 19 with fail
          have HB : Hid (Below WD.heap.size WD WD.drew) := Below.drewN' 1
          have hkp : ∀ W, Below WD.heap.size WD W → (W.cell? ⟨w6.heap.size, 0, none⟩ = some (.bool nA.1) ∧ W.cell? ⟨w6.heap.size, 1, none⟩ = some (.slice a6 nA.2.1.length c6) ∧ W.cell? ⟨w6.heap.size, 2, none⟩ = some (.int .i64 nA.2.2)) ∧ (W.cell? ⟨TD, 0, none⟩ = some (.bool nA.1) ∧ W.cell? ⟨TD, 1, none⟩ = some (.slice aD nA.2.1.length cD) ∧ W.cell? ⟨TD, 2, none⟩ = some (.int .i64 nA.2.2)) := fun W hb => ⟨boxK H4.out.1.bx W hb, boxK H4.out.2.1.bx W hb⟩
          have HKP : Hid _ := hkp
          obtain ⟨⟨g00, g01, g02⟩, ⟨g10, g11, g12⟩⟩ := hkp WD (Below.refl _ _)
          clear hkp
          have hne : ∀ W, Below WD.heap.size WD W → W.heap.size ≠ w6.heap.size ∧ W.heap.size ≠ TD ∧ w6.heap.size ≠ W.heap.size ∧ TD ≠ W.heap.size := fun W hb => by
            have e1 := lt_of H4.out.1.bx
            have e2 := lt_of H4.out.2.1.bx
            have e0 := hb.size
            refine ⟨?_, ?_, ?_, ?_⟩ <;> omega
          have HNE : Hid _ := hne
          have HBZ : Hid (Below WD.heap.size WD (WD.alloc (.cells #[.bool false, .slice none 0 0, .int .i64 0] 25)).drew) := ((Below.refl WD.heap.size WD).alloc (Nat.le_refl _) (.cells #[.bool false, .slice none 0 0, .int .i64 0] 25)).trans ((Below.drewN' (w := WD.alloc (.cells #[.bool false, .slice none 0 0, .int .i64 0] 25)) 1).mono (Nat.le_of_lt (lt_alloc _ _)))
          obtain ⟨ne0, ne1, ne2, ne3⟩ := hne WD.drew HB.out
          obtain ⟨nu0, nu1, nu2, nu3⟩ := hne WD (Below.refl _ _)
          clear hne
          have q1 := fun W (hb : Below WD.heap.size WD W) => neg_n prg (H4.out.1.below hb).nm
          have q2 := fun W (hb : Below WD.heap.size WD W) {v : Value} (h : NmR W v (ngS nA)) => add_n prg (H4.out.1.below hb).nm h (by omega) (by show nA.2.1.length ≤ 1300; omega)
          rw [HQ.out.2] at q2
          have HC : Hid _ := And.intro q1 q2
          clear q1 q2
          go_cut [21, 22] (fun v19 v20 wx => ∃ (T4 : Nat) (a4 : Option Addr) (c4 : Nat), v19 = .pointer (some ⟨T4, 0, none⟩) ∧ v20 = .int .i64 0 ∧ BxN wx T4 25 zN a4 c4 ∧ Below WD.heap.size WD wx)
          case first =>
            go_region_held3 (fun W => W.cell? ⟨w6.heap.size, 0, none⟩ = some (.bool nA.1) ∧ W.cell? ⟨w6.heap.size, 1, none⟩ = some (.slice a6 nA.2.1.length c6) ∧ W.cell? ⟨w6.heap.size, 2, none⟩ = some (.int .i64 nA.2.2) ∧ W.cell? ⟨TD, 0, none⟩ = some (.bool nA.1) ∧ W.cell? ⟨TD, 1, none⟩ = some (.slice aD nA.2.1.length cD) ∧ W.cell? ⟨TD, 2, none⟩ = some (.int .i64 nA.2.2)) (first | exact ⟨g00, g01, g02, g10, g11, g12⟩ | go_keep) (first
              | (go_at_call 12; (with_reducible refine Calls.mono (HC.out.1 _ HB.out) ?_); rintro e w9 ⟨ga, gc, rfl, hng, hb9⟩; have HNG : Hid _ := And.intro hng trivial; clear hng; have hbb := HB.out.trans (hb9.mono HB.out.size); obtain ⟨⟨g00, g01, g02⟩, ⟨g10, g11, g12⟩⟩ := HKP.out _ hbb; have HB : Hid _ := hbb; obtain ⟨ne0, ne1, ne2, ne3⟩ := HNE.out _ HB.out; clear hbb hb9)
              | (go_at_call 12; (with_reducible refine Calls.mono (HC.out.1 _ HBZ.out) ?_); rintro e w9 ⟨ga, gc, rfl, hng, hb9⟩; have HNG : Hid _ := And.intro hng trivial; clear hng; have hbb := HBZ.out.trans (hb9.mono HBZ.out.size); obtain ⟨⟨g00, g01, g02⟩, ⟨g10, g11, g12⟩⟩ := HKP.out _ hbb; have HZ : Hid _ := (hb9.block WD.heap.size (lt_alloc WD (.cells #[.bool false, .slice none 0 0, .int .i64 0] 25))).trans (nw_heap WD (.cells #[.bool false, .slice none 0 0, .int .i64 0] 25)); obtain ⟨z0, z1, z2⟩ := bl3 HZ.out; obtain ⟨zf0, zf1, zf2⟩ := bl3f HZ.out; have HB : Hid _ := hbb; obtain ⟨ne0, ne1, ne2, ne3⟩ := HNE.out _ HB.out; clear hbb hb9)
              | (go_at_call 10; (with_reducible refine Calls.mono (HC.out.2 _ HB.out HNG.out.1) ?_); rintro e w9 ⟨a4, c4, rfl, hn4, hb9⟩; have HN4 : Hid _ := And.intro hn4 trivial; clear hn4; have hbb := HB.out.trans (hb9.mono HB.out.size); obtain ⟨⟨g00, g01, g02⟩, ⟨g10, g11, g12⟩⟩ := HKP.out _ hbb; (first | (have HZ : Hid _ := (hb9.block _ (lt_of HZ.out)).trans HZ.out; obtain ⟨z0, z1, z2⟩ := bl3 HZ.out; obtain ⟨zf0, zf1, zf2⟩ := bl3f HZ.out) | skip); have HB : Hid _ := hbb; obtain ⟨ne0, ne1, ne2, ne3⟩ := HNE.out _ HB.out; clear hbb hb9)
              | (go_at_call 10; (with_reducible refine Calls.mono (HC.out.2 _ (HB.out.alloc HB.out.size (.cells #[.bool false, .slice none 0 0, .int .i64 0] 25)) (HNG.out.1.below ((Below.refl _ _).alloc (Nat.le_refl _) (.cells #[.bool false, .slice none 0 0, .int .i64 0] 25)))) ?_); rintro e w9 ⟨a4, c4, rfl, hn4, hb9⟩; have HN4 : Hid _ := And.intro hn4 trivial; clear hn4; have hbb := (HB.out.alloc HB.out.size (.cells #[.bool false, .slice none 0 0, .int .i64 0] 25)).trans (hb9.mono (le_alloc HB.out.size _)); have HT4 : Hid _ := And.intro HB.out.size trivial; obtain ⟨⟨g00, g01, g02⟩, ⟨g10, g11, g12⟩⟩ := HKP.out _ hbb; have HZ : Hid _ := (hb9.block _ (lt_alloc _ _)).trans (nw_heap _ (.cells #[.bool false, .slice none 0 0, .int .i64 0] 25)); obtain ⟨z0, z1, z2⟩ := bl3 HZ.out; obtain ⟨zf0, zf1, zf2⟩ := bl3f HZ.out; have HB : Hid _ := hbb; obtain ⟨ne0, ne1, ne2, ne3⟩ := HNE.out _ HB.out; clear hbb hb9))
            all_goals
              go_wp2_with fail
              go_meet
              case rel =>
                first
                  | (obtain ⟨z, hz⟩ := BxN.mk' (t := 25) HN4.out.1; exact ⟨_, a4, c4, rfl, rfl, z, HB.out.trans (hz.mono HB.out.size)⟩)
                  | (obtain ⟨z, hz⟩ := BxN.stored HN4.out.1 HZ.out WD.heap.size (by first | exact HT4.out.1 | exact Nat.le_refl _); exact ⟨_, a4, c4, rfl, rfl, z, HB.out.trans hz⟩)
          case rest =>
            obtain ⟨TE, aE, cE, rfl, rfl, hxE, hbE⟩ := hcut
            have H5 : Hid _ := And.intro (H4.out.1.below hbE) (And.intro (H4.out.2.1.below hbE) (And.intro hxE (H4.out.2.2.trans (hbE.mono H4.out.2.2.size))))
            clear hxE hbE H4 HB HKP HNE HBZ HC g00 g01 g02 g10 g11 g12 ne0 ne1 ne2 ne3 nu0 nu1 nu2 nu3
            obtain ⟨WE, hWE⟩ : ∃ W, W = wc := ⟨_, rfl⟩
            subst hWE
            go_upto_region 20 with fail
            have HB : Hid (Below WE.heap.size WE WE.drew) := Below.drewN' 1
            have hkp : ∀ W, Below WE.heap.size WE W → (W.cell? ⟨w6.heap.size, 0, none⟩ = some (.bool nA.1) ∧ W.cell? ⟨w6.heap.size, 1, none⟩ = some (.slice a6 nA.2.1.length c6) ∧ W.cell? ⟨w6.heap.size, 2, none⟩ = some (.int .i64 nA.2.2)) ∧ (W.cell? ⟨TD, 0, none⟩ = some (.bool nA.1) ∧ W.cell? ⟨TD, 1, none⟩ = some (.slice aD nA.2.1.length cD) ∧ W.cell? ⟨TD, 2, none⟩ = some (.int .i64 nA.2.2)) ∧ (W.cell? ⟨TE, 0, none⟩ = some (.bool zN.1) ∧ W.cell? ⟨TE, 1, none⟩ = some (.slice aE zN.2.1.length cE) ∧ W.cell? ⟨TE, 2, none⟩ = some (.int .i64 zN.2.2)) := fun W hb => ⟨boxK H5.out.1.bx W hb, boxK H5.out.2.1.bx W hb, boxK H5.out.2.2.1.bx W hb⟩
            have HKP : Hid _ := hkp
            obtain ⟨⟨g00, g01, g02⟩, ⟨g10, g11, g12⟩, ⟨g20, g21, g22⟩⟩ := hkp WE (Below.refl _ _)
            clear hkp
            have hw0 : IntKind.i64.wrap 0 = 0 := by decide
            have hcA := H5.out.1.nm.cn
            have h00 : cmpS nA nA = 0 := (cmp_zero hcA hcA).2 rfl
            have hnn := ng_ng hcA
            have q1 := fun W (hb : Below WE.heap.size WE W) => cmp_as prg (H5.out.2.1.below hb).nm (H5.out.1.below hb).nm h00
            have q2 := fun W (hb : Below WE.heap.size WE W) => text_as prg (H5.out.2.2.1.below hb).nm (s := ⟨#[48]⟩) rfl
            have q3 := fun W (hb : Below WE.heap.size WE W) => neg_n prg (H5.out.1.below hb).nm
            obtain ⟨nG, hnG⟩ : ∃ x, ngS nA = x := ⟨_, rfl⟩
            rw [hnG] at q3 hnn
            have q4 := fun (W : World) (v : Value) (h : NmR W v nG) => neg_n prg h
            rw [hnn] at q4
            have q5 := fun W (hb : Below WE.heap.size WE W) (v : Value) (h : NmR W v nA) => cmp_as prg h (H5.out.1.below hb).nm h00
            have HC : Hid _ := And.intro q1 (And.intro q2 (And.intro q3 (And.intro q4 q5)))
            clear q1 q2 q3 q4 q5 hnG hnn h00 hcA
            go_region_held3 (fun W => W.cell? ⟨w6.heap.size, 0, none⟩ = some (.bool nA.1) ∧ W.cell? ⟨w6.heap.size, 1, none⟩ = some (.slice a6 nA.2.1.length c6) ∧ W.cell? ⟨w6.heap.size, 2, none⟩ = some (.int .i64 nA.2.2) ∧ W.cell? ⟨TD, 0, none⟩ = some (.bool nA.1) ∧ W.cell? ⟨TD, 1, none⟩ = some (.slice aD nA.2.1.length cD) ∧ W.cell? ⟨TD, 2, none⟩ = some (.int .i64 nA.2.2) ∧ W.cell? ⟨TE, 0, none⟩ = some (.bool zN.1) ∧ W.cell? ⟨TE, 1, none⟩ = some (.slice aE zN.2.1.length cE) ∧ W.cell? ⟨TE, 2, none⟩ = some (.int .i64 zN.2.2)) (exact ⟨g00, g01, g02, g10, g11, g12, g20, g21, g22⟩) (first
              | (go_at_call 9; (with_reducible refine Calls.mono (HC.out.1 _ HB.out) ?_); rintro e w9 ⟨rfl, hb9⟩; have hbb := HB.out.trans (hb9.mono HB.out.size); clear HB g00 g01 g02 g10 g11 g12 g20 g21 g22; obtain ⟨⟨g00, g01, g02⟩, ⟨g10, g11, g12⟩, ⟨g20, g21, g22⟩⟩ := HKP.out _ hbb; have HB : Hid _ := hbb; clear hbb hb9)
              | (go_at_call 13; (with_reducible refine Calls.mono (HC.out.2.1 _ HB.out) ?_); rintro e w9 ⟨rfl, hb9⟩; have hbb := HB.out.trans (hb9.mono HB.out.size); clear HB g00 g01 g02 g10 g11 g12 g20 g21 g22; obtain ⟨⟨g00, g01, g02⟩, ⟨g10, g11, g12⟩, ⟨g20, g21, g22⟩⟩ := HKP.out _ hbb; have HB : Hid _ := hbb; clear hbb hb9)
              | (go_at_call 12; (with_reducible refine Calls.mono (HC.out.2.2.1 _ HB.out) ?_); rintro e w9 ⟨ga, gc, rfl, hng, hb9⟩; have HG1 : Hid _ := And.intro hng trivial; clear hng; have hbb := HB.out.trans (hb9.mono HB.out.size); clear HB g00 g01 g02 g10 g11 g12 g20 g21 g22; obtain ⟨⟨g00, g01, g02⟩, ⟨g10, g11, g12⟩, ⟨g20, g21, g22⟩⟩ := HKP.out _ hbb; have HB : Hid _ := hbb; clear hbb hb9)
              | (go_at_call 12; (with_reducible refine Calls.mono (HC.out.2.2.2.1 _ _ HG1.out.1) ?_); rintro e w9 ⟨ga2, gc2, rfl, hng, hb9⟩; have HG2 : Hid _ := And.intro hng trivial; clear hng; have hbb := HB.out.trans (hb9.mono HB.out.size); clear HB g00 g01 g02 g10 g11 g12 g20 g21 g22; obtain ⟨⟨g00, g01, g02⟩, ⟨g10, g11, g12⟩, ⟨g20, g21, g22⟩⟩ := HKP.out _ hbb; have HB : Hid _ := hbb; clear hbb hb9)
              | (go_at_call 9; (with_reducible refine Calls.mono (HC.out.2.2.2.2 _ HB.out _ HG2.out.1) ?_); rintro e w9 ⟨rfl, hb9⟩; have hbb := HB.out.trans (hb9.mono HB.out.size); clear HB g00 g01 g02 g10 g11 g12 g20 g21 g22; obtain ⟨⟨g00, g01, g02⟩, ⟨g10, g11, g12⟩, ⟨g20, g21, g22⟩⟩ := HKP.out _ hbb; have HB : Hid _ := hbb; clear hbb hb9))
            all_goals
              go_wp2_with fail
              go_ret
              exact ⟨rfl, H5.out.2.2.2.trans (HB.out.mono H5.out.2.2.2.size)⟩
end Go.Proofs.YtakemkhgaicckaaDoor
