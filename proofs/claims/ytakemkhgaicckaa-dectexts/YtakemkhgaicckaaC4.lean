/- The second telling: Parse. -/
import Derived.Test.YtakemkhgaicckaaC3
namespace Go.Proofs.Ytakemkhgaicckaa
open Go.RowKit
set_option linter.unusedVariables false

set_option maxRecDepth 100000 in
set_option maxHeartbeats 6400000 in
theorem parse_r (s : ByteArray) (w : World) (hsm : s.size ≤ maxLen) : Calls Try.prog 9 #[.string s] w (PaP (bl s) w) := by
  obtain ⟨i5, z5, hi5, hz0, hzc, hz1, hz3⟩ := info5p
  unfold maxLen at hsm
  have hb0 : Below w.heap.size w (w.alloc zD) := (Below.refl _ _).alloc (Nat.le_refl _) _
  have hR0 := nw_heap w zD
  have hpl : parS (bl s) = if 4096 < (bl s).length then .error 3 else match scS (sgS (bl s)).2 [] 0 false with
    | none => .error 2
    | some (b, s') => if b = [] then .error 2 else .ok (canS (sgS (bl s)).1 b s') := rfl
  rw [bl_len] at hpl
  have HP : Hid _ := And.intro hpl (And.intro hb0 hR0)
  clear hpl hb0 hR0
  obtain ⟨r0, r1, r2⟩ := bl3 (HP.out.2.2)
  obtain ⟨rf0, rf1, rf2⟩ := bl3f (HP.out.2.2)
  by_cases hbig : (4096 : Int) < s.size
  · go_enter Try.func9, Try.ntmps9
    go_wp2_with fail
    exact bodyPost_ret (v := .tuple #[nmV false (.slice none 0 0) 0, .int .i64 3]) (by simp [results, Try.results9, go_sem]) rfl (PaP.bad (by rw [HP.out.1, if_pos (by omega)]) HP.out.2.1)
  have hpl2 : parS (bl s) = match scS (sgS (bl s)).2 [] 0 false with
    | none => .error 2
    | some (b, s') => if b = [] then .error 2 else .ok (canS (sgS (bl s)).1 b s') := by rw [HP.out.1, if_neg (by omega)]
  have hcase : s.size = 0 ∨ ∃ h : 0 < s.size, ((s[0]'h).toNat : Int) = 43 ∨ ((s[0]'h).toNat : Int) = 45 ∨ (((s[0]'h).toNat : Int) ≠ 43 ∧ ((s[0]'h).toNat : Int) ≠ 45) := by
    by_cases h0 : s.size = 0
    · exact .inl h0
    · exact .inr ⟨by omega, by omega⟩
  have hsg : (s.size = 0 → sgS (bl s) = (false, bl s)) ∧ ∀ h : 0 < s.size, (((s[0]'h).toNat : Int) = 43 → sgS (bl s) = (false, bl (s.extract 1 s.size))) ∧ (((s[0]'h).toNat : Int) = 45 → sgS (bl s) = (true, bl (s.extract 1 s.size))) ∧ (((s[0]'h).toNat : Int) ≠ 43 ∧ ((s[0]'h).toNat : Int) ≠ 45 → sgS (bl s) = (false, bl s)) := by
    refine ⟨fun h => by rw [bl_nil h]; rfl, fun h => ⟨fun q => ?_, fun q => ?_, fun q => ?_⟩⟩
    · rw [bl_ext]
      conv => lhs; rw [bl_cons s h]
      rw [sgS, if_pos q]
    · rw [bl_ext]
      conv => lhs; rw [bl_cons s h]
      rw [sgS, if_neg (by omega), if_pos q]
    · conv => lhs; rw [bl_cons s h]
      rw [sgS, if_neg q.1, if_neg q.2, ← bl_cons s h]
  obtain ⟨HL1, HL2⟩ : Below w.heap.size w (w.alloc zD) ∧ True := ⟨HP.out.2.1, trivial⟩
  obtain ⟨hsg1, hsg2⟩ := hsg
  generalize hL : bl s = L at *
  have HP2 : Hid _ := hpl2
  have HL : Hid _ := hL
  have HW0 : Hid _ := And.intro HL1 (nw_heap w zD)
  clear hpl2 HP hL HL1 HL2 hsm
  go_enter Try.func9, Try.ntmps9
  rcases hcase with h0 | ⟨hp, h43 | h45 | ⟨h43, h45⟩⟩
  case' inl =>
    have HS : Hid (sgS L = (false, bl s)) := by show _ = _; rw [HL.out]; exact hsg1 h0
    have hsb := tl_ee h0
    clear hsg1 hsg2
    go_wp2_with fail
    have hs' : s.size ≤ 4096 := by omega
    clear h0 hsb
    rename ByteArray => s'
  case' inr.inl =>
    have HS : Hid (sgS L = (false, bl (s.extract 1 s.size))) := (hsg2 hp).1 h43
    have hsb := tl_nn hp
    clear hsg1 hsg2
    go_wp2_with fail
    have hs' : (s.extract 1 s.size).size ≤ 4096 := by have := ext_size s; omega
    generalize s.extract 1 s.size = s' at *
  case' inr.inr.inl =>
    have HS : Hid (sgS L = (true, bl (s.extract 1 s.size))) := (hsg2 hp).2.1 h45
    have hsb := tl_nn hp
    clear hsg1 hsg2
    go_wp2_with fail
    have hs' : (s.extract 1 s.size).size ≤ 4096 := by have := ext_size s; omega
    generalize s.extract 1 s.size = s' at *
  case' inr.inr.inr =>
    have HS : Hid (sgS L = (false, bl s)) := by show _ = _; rw [HL.out]; exact (hsg2 hp).2.2 ⟨h43, h45⟩
    have hsb := tl_nn hp
    have h43b : (((s[0]'hp).toNat : Int) == 43) = false := by simpa using h43
    have h45b : (((s[0]'hp).toNat : Int) == 45) = false := by simpa using h45
    clear hsg1 hsg2
    go_wp2_with fail
    clear h43 h45 h43b h45b hsb
    have hs' : s.size ≤ 4096 := by omega
    rename ByteArray => s'
  all_goals
    clear HL
    go_loopg [5, 6, 7, 8] s'.size (fun m v5 v6 v7 v8 wr => ∃ (i : Nat) (b : List Int) (sc : Nat) (p : Bool), v6 = .int .i64 sc ∧ v7 = .bool p ∧ v8 = .int .i64 i ∧ i + m = s'.size ∧ PI1 w (bl s') i b sc p v5 wr)
    case atStart => exact ⟨0, [], 0, false, rfl, rfl, rfl, by omega, HW0.out.2, ⟨rfl, .inl ⟨rfl, rfl⟩⟩, HW0.out.1, rfl, by simp, by simp, fun d hd => by simp at hd⟩
    case round =>
      obtain ⟨i, b, sc, p, rfl, rfl, rfl, him, hI⟩ := hrel
      obtain ⟨va, vc, rfl⟩ := row_form hI.row
      obtain ⟨q0, q1, q2⟩ := bl3 hI.z
      obtain ⟨qf0, qf1, qf2⟩ := bl3f hI.z
      have hbl := hI.len
      have hscl := hI.sc'
      have hzlt := lt_of hI.z
      by_cases hi : i < s'.size
      · obtain ⟨m, rfl⟩ : ∃ m, gk = m + 1 := ⟨gk - 1, by omega⟩
        have heq := hI.eq
        rw [bl_drop s' i hi, scS] at heq
        have hcb : ((s'[i]'hi).toNat : Int) < 256 := by have := (s'[i]'hi).toNat_lt; omega
        have HI : Hid _ := And.intro hI heq
        clear hI heq
        by_cases hd : 48 ≤ ((s'[i]'hi).toNat : Int) ∧ ((s'[i]'hi).toNat : Int) ≤ 57
        · obtain ⟨hd1, hd2⟩ := hd
          cases p
          · go_wp2_with (first | (at_builtin; refine wpList_app _ rfl (.tmp 48) (.tmp 53) 22 rfl (w.heap.size + 1) 5 i5 z5 1 1 Try.underlying22 hi5 hz0 hz1 hz3 hzc (by decide) (.slice va b.length vc) b.length (b.map (Value.int .u8)) rfl (World.ownsRow.alloc HI.out.1.row _) (some ⟨wr.heap.size, 0, none⟩) 1 1 [.int .u8 (((s'[i]'hi).toNat : Int) - 48)] rfl rfl (.inr ⟨_, rfl, World.news_of_block (nw_heap wr _)⟩) (by intro u hu; simp at hu; subst hu; rfl) (by unfold maxLen; omega) (by omega) (by simp only [sza]; omega) ?_; intro v5' w5 hown5 hg5 hat5; have H5 : Hid _ := And.intro hown5 hg5; clear hown5 hg5 hat5))
            go_roundg m
            case measure => omega
            case rel => exact ⟨i + 1, b ++ [((s'[i]'hi).toNat : Int) - 48], sc, false, by simp, rfl, by simp, by omega, HI.out.1.more H5.out.2 H5.out.1 (by rw [HI.out.2, if_pos ⟨hd1, hd2⟩]; rfl) (by omega) (by omega)⟩
          · go_wp2_with (first | (at_builtin; refine wpList_app _ rfl (.tmp 48) (.tmp 53) 22 rfl (w.heap.size + 1) 5 i5 z5 1 1 Try.underlying22 hi5 hz0 hz1 hz3 hzc (by decide) (.slice va b.length vc) b.length (b.map (Value.int .u8)) rfl (World.ownsRow.alloc HI.out.1.row _) (some ⟨wr.heap.size, 0, none⟩) 1 1 [.int .u8 (((s'[i]'hi).toNat : Int) - 48)] rfl rfl (.inr ⟨_, rfl, World.news_of_block (nw_heap wr _)⟩) (by intro u hu; simp at hu; subst hu; rfl) (by unfold maxLen; omega) (by omega) (by simp only [sza]; omega) ?_; intro v5' w5 hown5 hg5 hat5; have H5 : Hid _ := And.intro hown5 hg5; clear hown5 hg5 hat5))
            go_roundg m
            case measure => omega
            case rel => exact ⟨i + 1, b ++ [((s'[i]'hi).toNat : Int) - 48], sc + 1, true, by simp, rfl, by simp, by omega, HI.out.1.more H5.out.2 H5.out.1 (by rw [HI.out.2, if_pos ⟨hd1, hd2⟩]; rfl) (by omega) (by omega)⟩
        · by_cases hp : ((s'[i]'hi).toNat : Int) = 46 ∧ p = false
          · obtain ⟨hp1, rfl⟩ := hp
            have hd1 : ¬ (48 ≤ ((s'[i]'hi).toNat : Int)) := by omega
            go_wp2_with fail
            go_roundg m
            case measure => omega
            case rel => exact ⟨i + 1, b, sc, true, rfl, rfl, by simp, by omega, HI.out.1.z, HI.out.1.row, HI.out.1.bel, by rw [HI.out.2, if_neg hd, if_pos ⟨hp1, by simp⟩], by omega, HI.out.1.sc', HI.out.1.dg⟩
          · have hpe : parS L = .error 2 := by
              rw [HP2.out, HS.out]
              dsimp only
              rw [HI.out.2, if_neg hd, if_neg hp]
            have HPE : Hid _ := hpe
            clear hpe
            by_cases hd1 : 48 ≤ ((s'[i]'hi).toNat : Int)
            case' pos =>
              have hd2 : ¬ ((s'[i]'hi).toNat : Int) ≤ 57 := fun q => hd ⟨hd1, q⟩
              have h46 : ¬ ((s'[i]'hi).toNat : Int) = 46 := by omega
              have h46b : (((s'[i]'hi).toNat : Int) == 46) = false := by simpa using h46
              clear hd hp
              go_wp2_with fail
            case' neg =>
              clear hd
              by_cases h46 : ((s'[i]'hi).toNat : Int) = 46
              case' pos =>
                have hpt : p = true := by cases p; exact absurd ⟨h46, rfl⟩ hp; rfl
                subst hpt
                clear hp
                go_wp2_with fail
              case' neg =>
                have h46b : (((s'[i]'hi).toNat : Int) == 46) = false := by simpa using h46
                clear hp
                go_wp2_with fail
            all_goals
              obtain ⟨k1, k2, k3, k4⟩ := set3 HI.out.1.bel (Nat.le_refl _) HI.out.1.z (.bool false) (.slice none 0 0) (.int .i64 0)
              generalize (((wr.setCell ⟨w.heap.size, 0, none⟩ (.bool false)).setCell ⟨w.heap.size, 1, none⟩ (.slice none 0 0)).setCell ⟨w.heap.size, 2, none⟩ (.int .i64 0)) = W9 at *
              obtain ⟨y0, y1, y2⟩ := bl3 k1
              exact bodyPost_ret (v := .tuple #[nmV false (.slice none 0 0) 0, .int .i64 2]) (by simp [results, Try.results9, go_sem, y0, y1, y2]) rfl (PaP.bad HPE.out k2)
      · obtain rfl : i = s'.size := by omega
        have hpe : parS L = if b = [] then .error 2 else .ok (canS (sgS L).1 b sc) := by
          rw [HP2.out, HS.out]
          dsimp only
          rw [hI.eq, List.drop_eq_nil_of_le (by rw [bl_len]; omega), scS]
        rw [HS.out] at hpe
        dsimp only at hpe
        by_cases hb : b = []
        · have hb0 : b.length = 0 := by rw [hb]; rfl
          have HPE : Hid (parS L = .error 2) := by show _ = _; rw [hpe, if_pos hb]
          have hbi : ((b.length : Nat) : Int) = 0 := by omega
          have hbi2 : (((b.length : Nat) : Int) == 0) = true := by simp [hbi]
          have HI : Hid _ := hI
          clear hpe hb hb0 hI
          go_wp2_with fail
          obtain ⟨k1, k2, k3, k4⟩ := set3 HI.out.bel (Nat.le_refl _) HI.out.z (.bool false) (.slice none 0 0) (.int .i64 0)
          generalize (((wr.setCell ⟨w.heap.size, 0, none⟩ (.bool false)).setCell ⟨w.heap.size, 1, none⟩ (.slice none 0 0)).setCell ⟨w.heap.size, 2, none⟩ (.int .i64 0)) = W9 at *
          obtain ⟨y0, y1, y2⟩ := bl3 k1
          exact bodyPost_ret (v := .tuple #[nmV false (.slice none 0 0) 0, .int .i64 2]) (by simp [results, Try.results9, go_sem, y0, y1, y2]) rfl (PaP.bad HPE.out k2)
        · have hb0 : ¬ ((b.length : Nat) : Int) = 0 := by
            have := List.length_pos_iff.2 hb
            omega
          have hbi2 : (((b.length : Nat) : Int) == 0) = false := by simpa using hb0
          rw [if_neg hb] at hpe
          have hbt : BtR wr (.slice va b.length vc) b := btr_own hI.row rfl (fun d hd => by have := hI.dg d hd; omega)
          have hcn := fun ng => canon_r hbt ng sc hI.sc' (by omega)
          have HI : Hid _ := And.intro hI (And.intro hpe hcn)
          clear hpe hb hI hcn hbt
          go_wp2_with fail
          refine Calls.mono (HI.out.2.2 _) ?_
          rintro e w2 ⟨rv, rfl, hbt2, hrv2, hb2⟩
          have hz2 := (hb2.block _ (lt_of HI.out.1.z)).trans HI.out.1.z
          have hbw2 := HI.out.1.bel.trans (hb2.mono HI.out.1.bel.size)
          obtain ⟨y0, y1, y2⟩ := bl3 hz2
          obtain ⟨yf0, yf1, yf2⟩ := bl3f hz2
          obtain ⟨ra, rc, rfl, _⟩ := hbt2.form
          have H2 : Hid _ := And.intro hbt2 (And.intro hz2 (And.intro hbw2 hrv2))
          clear hbt2 hb2 hz2 hbw2 hrv2
          go_wp2_with fail
          generalize canS _ b sc = C at *
          obtain ⟨c1, c2, c3⟩ := C
          dsimp only at *
          obtain ⟨k1, k2, k3, k4⟩ := set3 H2.out.2.2.1 (Nat.le_refl _) H2.out.2.1 (.bool c1) (.slice ra c2.length rc) (.int .i64 c3)
          have hbt9 := H2.out.1.kept (Nat.le_of_eq k4.symm) k3 (fun k hk hn e => by have := H2.out.2.2.2 k hk; omega)
          generalize (((w2.setCell ⟨w.heap.size, 0, none⟩ (.bool c1)).setCell ⟨w.heap.size, 1, none⟩ (.slice ra c2.length rc)).setCell ⟨w.heap.size, 2, none⟩ (.int .i64 c3)) = W9 at *
          obtain ⟨j0, j1, j2⟩ := bl3 k1
          exact bodyPost_ret (v := .tuple #[nmV c1 (.slice ra c2.length rc) c3, .int .i64 0]) (by simp [results, Try.results9, go_sem, j0, j1, j2]) rfl (PaP.good (n := (c1, c2, c3)) HI.out.2.1 k2 hbt9)
end Go.Proofs.Ytakemkhgaicckaa
