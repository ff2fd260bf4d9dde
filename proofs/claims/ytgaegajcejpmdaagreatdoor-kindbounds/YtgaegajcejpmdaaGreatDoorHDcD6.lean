/- The program: Parse. -/
import Derived.Test.YtgaegajcejpmdaaGreatDoorHDcD2
import Derived.Test.YtgaegajcejpmdaaGreatDoorHJ19
namespace Go.Proofs.YtgaegajcejpmdaaGreatDoor.Dc
open Go.RowKit
set_option linter.unusedVariables false

theorem PrP.bad {l : List Int} {w w' : World} {x : Int} (h : parS l = .error x) (hb : Below w.heap.size w w') : PrP l w (.returned (.tuple #[nmV false (.slice none 0 0) 0, .int .i64 x])) w' := by
  refine ⟨hb, ?_⟩
  rw [h]
  exact ⟨_, rfl, none, 0, rfl, Nat.le_refl _, Nat.zero_le _, fun d hd => by simp at hd, .inl rfl⟩
theorem PrP.good {l : List Int} {w w' : World} {n : Nm} {rv : Value} (h : parS l = .ok n) (hb : Below w.heap.size w w') (ht : BtR w' rv n.2.1) : PrP l w (.returned (.tuple #[nmV n.1 rv n.2.2, .int .i64 0])) w' := by
  refine ⟨hb, ?_⟩
  rw [h]
  exact ⟨rv, rfl, ht⟩
/-- Its sign, and what follows it. -/
theorem sg_cases (s : ByteArray) : ((bl s).head? = some 45 ∧ 0 < s.size ∧ sgS (bl s) = (true, bl (s.extract 1 s.size))) ∨ ((bl s).head? ≠ some 45 ∧ (bl s).head? = some 43 ∧ 0 < s.size ∧ sgS (bl s) = (false, bl (s.extract 1 s.size))) ∨ ((bl s).head? ≠ some 45 ∧ (bl s).head? ≠ some 43 ∧ sgS (bl s) = (false, bl s)) := by
  rw [bl_ext]
  by_cases h0 : 0 < s.size
  · have hc := bl_cons s h0
    generalize ((s[0]'h0).toNat : Int) = c at *
    rw [hc]
    simp only [List.head?_cons, Option.some.injEq, sgS, List.drop_succ_cons, List.drop_zero]
    by_cases h1 : c = 45
    · exact .inl ⟨h1, h0, by rw [if_neg (by omega), if_pos h1]⟩
    · by_cases h2 : c = 43
      · exact .inr (.inl ⟨by simpa using h1, h2, h0, by rw [if_pos h2]⟩)
      · exact .inr (.inr ⟨by simpa using h1, by simpa using h2, by rw [if_neg h2, if_neg h1]⟩)
  · rw [bl_nil (by omega)]
    exact .inr (.inr ⟨by simp, by simp, rfl⟩)
theorem bl_app (a b : ByteArray) : bl (a ++ b) = bl a ++ bl b := by
  unfold bl
  rw [← List.map_append]
  congr 1
theorem bl_e0 {s : ByteArray} : bl s = [] ↔ s.size = 0 := ⟨fun h => by rw [← bl_len, h]; rfl, bl_nil⟩
set_option maxRecDepth 100000 in
set_option maxHeartbeats 6400000 in
theorem parse_p (s : ByteArray) (w : World) (hsm : s.size ≤ maxLen) : Calls Tryz.prog 59 #[.string s] w (PrP (bl s) w) := by
  have hpm := fun c W => pre_p s c W hsm
  unfold maxLen at hsm
  have hb0 : Below w.heap.size w (w.alloc zP) := (Below.refl _ _).alloc (Nat.le_refl _) _
  have hR0 := nw_heap w zP
  have hpl := par_cut (bl s)
  rw [bl_len] at hpl
  have HP : Hid _ := And.intro hpl (And.intro hb0 (And.intro hR0 hpm))
  clear hpl hb0 hR0 hpm
  by_cases hbig : (4096 : Int) < s.size
  · go_enter Tryz.func59, Tryz.ntmps59
    go_wp2_with fail
    exact bodyPost_ret (v := .tuple #[nmV false (.slice none 0 0) 0, .int .i64 3]) (by simp [results, Tryz.results59, go_sem]) rfl (PrP.bad (by rw [HP.out.1, if_pos (by omega)]) HP.out.2.1)
  have hpl2 := HP.out.1
  rw [if_neg (show ¬ 4096 < s.size by omega)] at hpl2
  have hpm := HP.out.2.2.2
  have hsg := sg_cases s
  generalize hL : bl s = L at *
  have HP2 : Hid _ := And.intro hpl2 (And.intro HP.out.2.1 (And.intro HP.out.2.2.1 (And.intro (hpm 45) (hpm 43))))
  have HL : Hid _ := hL
  clear hpl2 HP hL hpm
  go_enter Tryz.func59, Tryz.ntmps59
  rcases hsg with ⟨h1, hp, hs1⟩ | ⟨h1, h2, hp, hs1⟩ | ⟨h1, h2, hs1⟩
  case' inl =>
    have hd1 : decide (L.head? = some ((45 : UInt8).toNat : Int)) = true := decide_eq_true h1
    have HS : Hid _ := hs1
    have HD : Hid _ := hd1
    clear hd1 h1 hs1
    go_wp2_with fail
    refine Calls.mono (HP2.out.2.2.2.1 _) ?_
    rintro e w' ⟨rfl, rfl⟩
    rw [HD.out]
    go_wp2_with fail
    have hs' : (s.extract 1 s.size).size ≤ 4096 := by have := ext_size s; omega
    generalize s.extract 1 s.size = s' at *
  case' inr.inl =>
    have hd1 : decide (L.head? = some ((45 : UInt8).toNat : Int)) = false := decide_eq_false h1
    have hd2 : decide (L.head? = some ((43 : UInt8).toNat : Int)) = true := decide_eq_true h2
    have HS : Hid _ := hs1
    have HD : Hid _ := And.intro hd1 hd2
    clear hd1 hd2 h1 h2 hs1
    go_wp2_with fail
    refine Calls.mono (HP2.out.2.2.2.1 _) ?_
    rintro e w' ⟨rfl, rfl⟩
    rw [HD.out.1]
    go_wp2_with fail
    refine Calls.mono (HP2.out.2.2.2.2 _) ?_
    rintro e w' ⟨rfl, rfl⟩
    rw [HD.out.2]
    go_wp2_with fail
    have hs' : (s.extract 1 s.size).size ≤ 4096 := by have := ext_size s; omega
    generalize s.extract 1 s.size = s' at *
  case' inr.inr =>
    have hd1 : decide (L.head? = some ((45 : UInt8).toNat : Int)) = false := decide_eq_false h1
    have hd2 : decide (L.head? = some ((43 : UInt8).toNat : Int)) = false := decide_eq_false h2
    have hs2 : sgS L = (false, bl s) := by rw [HL.out]; exact hs1
    have HS : Hid _ := hs2
    clear hs2
    have HD : Hid _ := And.intro hd1 hd2
    clear hd1 hd2 h1 h2 hs1
    go_wp2_with fail
    refine Calls.mono (HP2.out.2.2.2.1 _) ?_
    rintro e w' ⟨rfl, rfl⟩
    rw [HD.out.1]
    go_wp2_with fail
    refine Calls.mono (HP2.out.2.2.2.2 _) ?_
    rintro e w' ⟨rfl, rfl⟩
    rw [HD.out.2]
    go_wp2_with fail
    have hs' : s.size ≤ 4096 := by omega
    clear HL
    rename ByteArray => s'
  all_goals
    have hc := cut_p s' (w.alloc zP) (by unfold maxLen; omega)
    refine Calls.mono hc ?_
    rintro e w1 ⟨x, y, bb, rfl, hct, hxy, hb1⟩
    have hct1 : (ctS (bl s')).1 = bl x := by rw [← hct]
    have hct2 : (ctS (bl s')).2 = bl y := by rw [← hct]
    have hpl := HP2.out.1
    rw [HS.out] at hpl
    dsimp only at hpl
    rw [hct1, hct2] at hpl
    have hbw1 := HP2.out.2.1.trans (hb1.mono HP2.out.2.1.size)
    have hz1 := (hb1.block _ (lt_of HP2.out.2.2.1)).trans HP2.out.2.2.1
    obtain ⟨r0, r1, r2⟩ := bl3 hz1
    obtain ⟨rf0, rf1, rf2⟩ := bl3f hz1
    have H1 : Hid _ := And.intro hpl (And.intro hbw1 hz1)
    clear hc hct hct1 hct2 hpl hbw1 hz1 hb1 HP2
    have hcase : (x.size = 0 ∧ y.size = 0) ∨ (x.size = 0 ∧ 0 < y.size) ∨ 0 < x.size := by omega
    rcases hcase with ⟨hx, hy⟩ | ⟨hx, hy⟩ | hx
    case' inl =>
      have hpe : parS L = .error 2 := by rw [H1.out.1, if_pos ⟨bl_nil hx, bl_nil hy⟩]
      have e1 := tl_ee hx
      have e2 := tl_ee hy
      have HPE : Hid _ := hpe
      clear hpe
      go_wp2_with fail
      obtain ⟨k1, k2, k3, k4⟩ := set3 H1.out.2.1 (Nat.le_refl _) H1.out.2.2 (.bool false) (.slice none 0 0) (.int .i64 0)
      generalize (((w1.setCell ⟨w.heap.size, 0, none⟩ (.bool false)).setCell ⟨w.heap.size, 1, none⟩ (.slice none 0 0)).setCell ⟨w.heap.size, 2, none⟩ (.int .i64 0)) = W9 at *
      obtain ⟨y0, y1, y2⟩ := bl3 k1
      exact bodyPost_ret (v := .tuple #[nmV false (.slice none 0 0) 0, .int .i64 2]) (by simp [results, Tryz.results59, go_sem, y0, y1, y2]) rfl (PrP.bad HPE.out k2)
    case' inr.inl =>
      have hpe := H1.out.1
      rw [if_neg (fun q => by rw [bl_e0] at q; rw [bl_e0] at q; omega)] at hpe
      have e1 := tl_ee hx
      have e2 := tl_nn hy
      have HPE : Hid _ := hpe
      clear hpe
      go_wp2_with fail
    case' inr.inr =>
      have hpe := H1.out.1
      rw [if_neg (fun q => by rw [bl_e0] at q; omega)] at hpe
      have e1 := tl_nn hx
      have HPE : Hid _ := hpe
      clear hpe
      go_wp2_with fail
    all_goals
      have hzs : ((⟨#[48]⟩ : ByteArray) ++ x ++ y).size = 1 + x.size + y.size := by rw [ByteArray.size_append, ByteArray.size_append]; rfl
      have hbz : bl ((⟨#[48]⟩ : ByteArray) ++ x ++ y) = 48 :: (bl x ++ bl y) := by rw [bl_app, bl_app]; rfl
      have hdp := digits_p ((⟨#[48]⟩ : ByteArray) ++ x ++ y) w1 (by rw [hzs]; omega)
      rw [hbz] at hdp
      have hlx := bl_len x
      have hly := bl_len y
      refine Calls.mono hdp ?_
      rintro e w2 ⟨hb2, hdd⟩
      have hd48 : dgs (48 :: (bl x ++ bl y)) = dgs (bl x ++ bl y) := by simp [dgs]
      have hbw2 := H1.out.2.1.trans (hb2.mono H1.out.2.1.size)
      have hz2 := (hb2.block _ (lt_of H1.out.2.2)).trans H1.out.2.2
      rw [hd48] at hdd
      have hpe := HPE.out
      rw [hly] at hpe
      clear r0 r1 r2 rf0 rf1 rf2 hzs hbz hdp hd48 hb2 HPE
      obtain ⟨r0, r1, r2⟩ := bl3 hz2
      obtain ⟨rf0, rf1, rf2⟩ := bl3f hz2
      obtain ⟨ll, hll⟩ : ∃ ll, ll = 0 :: (bl x ++ bl y).map (· - 48) := ⟨_, rfl⟩
      have hln : (48 :: (bl x ++ bl y)).length = ll.length := by rw [hll]; simp
      have hln2 : ll.length = x.size + y.size + 1 := by rw [← hln, ← hlx, ← hly]; simp
      have hmp : (48 :: (bl x ++ bl y)).map (· - 48) = ll := by rw [hll]; rfl
      rw [hln, hmp] at hdd
      rw [← hll] at hpe
      by_cases hdg : dgs (bl x ++ bl y) = true
      · rw [if_pos hdg] at hdd hpe
        obtain ⟨ra, rc, rfl, hbt⟩ := hdd
        have hdl : Dg ll := by
          rw [hll]
          have := dgs_dg hdg
          intro d hd
          rcases List.mem_cons.1 hd with q | q
          · omega
          · exact this d q
        have hcn := fun ng => canon_p hbt hdl ng y.size (by omega) (by omega)
        have H2 : Hid _ := And.intro hpe (And.intro hbw2 (And.intro hz2 hcn))
        have HLN : Hid _ := hln2
        clear hpe hbw2 hz2 hcn hdl hbt hll hln hln2 hmp hdg hlx hly H1
        go_wp2_with fail
        refine Calls.mono (H2.out.2.2.2 _) ?_
        rintro e w3 ⟨rv, rfl, hbt3, hrv3, hb3⟩
        have hz3 := (hb3.block _ (lt_of H2.out.2.2.1)).trans H2.out.2.2.1
        have hbw3 := H2.out.2.1.trans (hb3.mono H2.out.2.1.size)
        have hszw := H2.out.2.1.size
        clear r0 r1 r2 rf0 rf1 rf2
        obtain ⟨y0, y1, y2⟩ := bl3 hz3
        obtain ⟨yf0, yf1, yf2⟩ := bl3f hz3
        obtain ⟨rb, rd, rfl, _⟩ := hbt3.form
        have H3 : Hid _ := And.intro hbt3 (And.intro hz3 (And.intro hbw3 hrv3))
        clear hbt3 hb3 hz3 hbw3 hrv3
        go_wp2_with fail
        have hpe := H2.out.1
        generalize canS _ ll y.size = C at *
        obtain ⟨c1, c2, c3⟩ := C
        dsimp only at *
        obtain ⟨k1, k2, k3, k4⟩ := set3 H3.out.2.2.1 (Nat.le_refl _) H3.out.2.1 (.bool c1) (.slice rb c2.length rd) (.int .i64 c3)
        have hbt9 := H3.out.1.kept (Nat.le_of_eq k4.symm) k3 (fun k hk hn e => by have := H3.out.2.2.2 k hk; omega)
        generalize (((w3.setCell ⟨w.heap.size, 0, none⟩ (.bool c1)).setCell ⟨w.heap.size, 1, none⟩ (.slice rb c2.length rd)).setCell ⟨w.heap.size, 2, none⟩ (.int .i64 c3)) = W9 at *
        obtain ⟨j0, j1, j2⟩ := bl3 k1
        exact bodyPost_ret (v := .tuple #[nmV c1 (.slice rb c2.length rd) c3, .int .i64 0]) (by simp [results, Tryz.results59, go_sem, j0, j1, j2]) rfl (PrP.good (n := (c1, c2, c3)) hpe k2 hbt9)
      · rw [if_neg hdg] at hdd hpe
        subst hdd
        have HPE : Hid _ := And.intro hpe (And.intro hbw2 hz2)
        clear hpe hbw2 hz2 hll hln hln2 hmp hdg hlx hly H1
        go_wp2_with fail
        obtain ⟨k1, k2, k3, k4⟩ := set3 HPE.out.2.1 (Nat.le_refl _) HPE.out.2.2 (.bool false) (.slice none 0 0) (.int .i64 0)
        generalize (((w2.setCell ⟨w.heap.size, 0, none⟩ (.bool false)).setCell ⟨w.heap.size, 1, none⟩ (.slice none 0 0)).setCell ⟨w.heap.size, 2, none⟩ (.int .i64 0)) = W9 at *
        obtain ⟨y0, y1, y2⟩ := bl3 k1
        exact bodyPost_ret (v := .tuple #[nmV false (.slice none 0 0) 0, .int .i64 2]) (by simp [results, Tryz.results59, go_sem, y0, y1, y2]) rfl (PrP.bad HPE.out.1 k2)
end Go.Proofs.YtgaegajcejpmdaaGreatDoor.Dc
