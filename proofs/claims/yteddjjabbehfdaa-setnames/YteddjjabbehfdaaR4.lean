/- The second telling: put. -/
import Derived.Test.YteddjjabbehfdaaR3
namespace Go.Proofs.Yteddjjabbehfdaa
open Go.RowKit
set_option linter.unusedVariables false

theorem own_box {k : IntKind} {e : TypeId} {w : World} {base X : Nat} {v : Value} {l : List Rg} (h : Own k e w base v l) (hX : X < base) (i : Nat) (u : Value) : Own k e (w.setCell ⟨X, i, none⟩ u) base v l := by
  refine row_fro h (O := fun j => j = X) ((Fro.refl (fun j => j = X) w).set (.inl rfl) _) (fun j hj q => ?_)
  subst q
  have := (row_base h j hj).1
  omega
/-- Where put stands. -/
structure Pt (R : Rg) (l : List Rg) (w : World) (k : Nat) (d : Bool) (r : Rg) (O : List Rg) (v5 : Value) (wr : World) : Prop where
  box : wr.heap[w.heap.size]? = some (.cells #[.int .i64 r.1, .int .i64 r.2] 58 (0, 0))
  eq : O ++ putG d r (l.drop k) = putG false R l
  len : O.length ≤ 2 * k
  ok : 0 ≤ r.1 ∧ r.1 ≤ r.2 ∧ r.2 ≤ MX
  own : Own .i64 58 wr (w.heap.size + 1) v5 O
  bel : Below w.heap.size w wr
def PtE (R : Rg) (l : List Rg) (w : World) (k : Nat) (v5 v6 : Value) (wr : World) : Prop := ∃ d r O, v6 = .bool d ∧ Pt R l w k d r O v5 wr
def PuQ (l : List Rg) (w : World) (e : Ending) (w' : World) : Prop := ∃ a c, e = .returned (.slice a l.length c) ∧ Own .i64 58 w' w.heap.size (.slice a l.length c) l ∧ Below w.heap.size w w'
set_option maxRecDepth 4000 in
set_option maxHeartbeats 8000000 in
theorem put_r (v : Value) (l : List Rg) (R : Rg) (w : World) (h : Sl .i64 w v l) (hc : Cn l) (hR : 0 ≤ R.1 ∧ R.1 ≤ R.2 ∧ R.2 ≤ MX) (hn : l.length ≤ 100000) : Calls Try.prog 40 #[v, .agg #[.int .i64 R.1, .int .i64 R.2]] w fun e w' => PuQ (putG false R l) w e w' := by
  obtain ⟨i58, z58, hi58, hz0, hzc, hz1, hz3⟩ := info_rrp
  obtain ⟨a, cap, rfl, hcap⟩ := h.len
  obtain ⟨R0, R1⟩ := R
  have hx := nw_heap w (.cells #[.int .i64 R0, .int .i64 R1] 58)
  have hbW : Below w.heap.size w (w.alloc (.cells #[.int .i64 R0, .int .i64 R1] 58)) := (Below.refl _ _).alloc (Nat.le_refl _) _
  have HX : Hid _ := And.intro h (And.intro hc (⟨hx, rfl, Nat.le_refl _, hR, Own.nil _ _ _ _, hbW⟩ : Pt (R0, R1) l w 0 false (R0, R1) [] (.slice none 0 0) (w.alloc (.cells #[.int .i64 R0, .int .i64 R1] 58))))
  clear h hc hx hbW hR
  go_enter Try.func40, Try.ntmps40
  go_wp2_with fail
  go_loopg [5, 6, 7] l.length (fun g v5 v6 v7 wr => ∃ k : Nat, k + g = l.length ∧ v7 = .int .i64 (k : Int) ∧ PtE (R0, R1) l w k v5 v6 wr)
  case atStart => exact ⟨0, by omega, rfl, false, _, [], rfl, HX.out.2.2⟩
  case round =>
    obtain ⟨k, hk, rfl, d, r, O, rfl, hP⟩ := hrel
    obtain ⟨oa, oc, rfl⟩ := own_form hP.own
    obtain ⟨⟨b0, b1⟩, g0, g1⟩ := blk2 hP.box
    have hok := hP.ok
    have hln := hP.len
    obtain ⟨OL, hOL⟩ : ∃ OL, O.length = OL := ⟨_, rfl⟩
    have HOL : Hid _ := hOL
    have HP : Hid _ := hP
    rw [hOL] at HP hln ⊢
    clear hP hOL
    obtain ⟨r0, r1⟩ := r
    dsimp only at *
    obtain ⟨o1, o2, o3⟩ := hok
    have o3' : r1 ≤ 1114111 := o3
    clear o3
    by_cases hlt : k < l.length
    · obtain ⟨g, rfl⟩ : ∃ g, gk = g + 1 := ⟨gk - 1, by omega⟩
      obtain ⟨a', c', e, _, hx⟩ := HX.out.1
      simp only [Value.slice.injEq] at e
      obtain ⟨rfl, hdd, rfl⟩ := e
      clear hdd
      rcases hx with hx | ⟨b, off, rfl, hbl, hx⟩
      · rw [hx] at hlt; simp at hlt
      obtain ⟨q0, q1⟩ := hx k hlt
      have e0 := (HP.out.bel.cell (p := ⟨b, off + k * 2, none⟩) hbl).trans q0
      have e1 := (HP.out.bel.cell (p := ⟨b, off + k * 2 + 1, none⟩) hbl).trans q1
      have hxk := HX.out.2.1.ok l[k] (by simp)
      have heq := HP.out.eq
      rw [List.drop_eq_getElem_cons hlt, put_cons] at heq
      generalize l[k] = x at *
      obtain ⟨x0, x1⟩ := x
      dsimp only at *
      obtain ⟨p1, p2, p3⟩ := hxk
      have p3' : x1 ≤ 1114111 := p3
      clear q0 q1 hx p3
      have HE : Hid _ := heq
      clear heq
      go_upto_region 11 with fail
      obtain ⟨X1, hX1⟩ : ∃ X1, wr.alloc (.cells #[.int .i64 x0, .int .i64 x1] 58) = X1 := ⟨_, rfl⟩
      rw [hX1]
      have hbX : Below wr.heap.size wr X1 := by rw [← hX1]; exact (Below.refl _ _).alloc (Nat.le_refl _) _
      have hxx : X1.heap[wr.heap.size]? = some (.cells #[.int .i64 x0, .int .i64 x1] 58 (0, 0)) := by rw [← hX1]; exact nw_heap _ _
      have hbox : X1.heap[w.heap.size]? = some (.cells #[.int .i64 r0, .int .i64 r1] 58 (0, 0)) := (hbX.block _ (lt_of HP.out.box)).trans HP.out.box
      have hownX := HP.out.own.below hbX
      have hwX : Below w.heap.size w X1 := HP.out.bel.trans (hbX.mono HP.out.bel.size)
      have hob : ∀ j, (Value.slice oa OL oc).ownBlock = some j → w.heap.size + 1 ≤ j ∧ j < wr.heap.size := fun j hj => row_base HP.out.own j hj
      have hwl : w.heap.size < wr.heap.size := lt_of HP.out.box
      have hwl2 : wr.heap.size < X1.heap.size := lt_of hxx
      clear b0 b1 g0 g1 e0 e1 hX1 hbX
      obtain ⟨⟨b0, b1⟩, g0, g1⟩ := blk2 hbox
      obtain ⟨⟨y0, y1⟩, z0, z1⟩ := blk2 hxx
      have HW : Hid _ := And.intro hownX (And.intro hbox (And.intro hxx (And.intro hwX hob)))
      clear hownX hbox hxx hwX hob
      have hol : O.length ≤ 1000000 := by have := HOL.out; omega
      have HO : Hid _ := hol
      clear hol
      by_cases t1 : x1 < r0 - 1
      · have hE := HE.out
        rw [if_pos t1, List.append_cons] at hE
        have HE : Hid _ := hE
        clear hE
        go_wp2_with (first | (at_builtin; go_loud (refine wpList_put X1 .i64 58 26 i58 z58 16 Try.underlying26 hi58 hz0 hzc hz1 hz3 (by decide) (.tmp 42) (.tmp 44) rfl rfl (w.heap.size + 1) (.slice oa OL oc) O rfl HW.out.1 (x0, x1) rfl HO.out (by omega) ?_); intro v' w7 hown7 hb7 hv7; have H7 : Hid _ := And.intro hown7 hb7; clear hown7 hb7 hv7))
        go_roundg g
        case measure => omega
        case rel =>
          refine ⟨k + 1, by omega, by simp, d, (r0, r1), O ++ [(x0, x1)], rfl, ⟨(H7.out.2.2.block _ (lt_of HW.out.2.1) (fun q => by have := (HW.out.2.2.2.2 _ q).1; omega)).trans HW.out.2.1, HE.out, by rw [List.length_append, List.length_singleton, HOL.out]; omega, ⟨o1, o2, o3'⟩, H7.out.1, HW.out.2.2.2.1.trans (H7.out.2.1.mono (by omega))⟩⟩
      · by_cases t2 : r1 + 1 < x0
        · have hEf : d = false → O ++ [(r0, r1)] ++ [(x0, x1)] ++ putG true (r0, r1) (l.drop (k + 1)) = putG false (R0, R1) l := fun q => by
            have hE := HE.out
            subst q
            rw [if_neg t1, if_pos t2, if_neg (by simp), List.append_cons, List.append_cons] at hE
            exact hE
          have hEt : d = true → O ++ [(x0, x1)] ++ putG true (r0, r1) (l.drop (k + 1)) = putG false (R0, R1) l := fun q => by
            have hE := HE.out
            subst q
            rw [if_neg t1, if_pos t2, if_pos rfl, List.append_cons] at hE
            exact hE
          have HEE : Hid _ := And.intro hEf hEt
          clear hEf hEt HE
          cases d
          · have HE : Hid _ := HEE.out.1 (by simp)
            clear HEE
            go_upto_region 16 with (first | (at_builtin; go_loud (refine wpList_put X1 .i64 58 26 i58 z58 16 Try.underlying26 hi58 hz0 hzc hz1 hz3 (by decide) (.tmp 55) (.tmp 57) rfl rfl (w.heap.size + 1) (.slice oa OL oc) O rfl HW.out.1 (r0, r1) rfl HO.out (by omega) ?_); intro v' w7 hown7 hb7 hv7; have H7 : Hid _ := And.intro hown7 (And.intro hb7 hv7); clear hown7 hb7 hv7))
            obtain ⟨g7, c7, hv7⟩ := H7.out.2.2
            subst hv7
            have xx7 := (H7.out.2.1.2.block _ (lt_of HW.out.2.2.1) (fun q => by have := (HW.out.2.2.2.2 _ q).2; omega)).trans HW.out.2.2.1
            have bx7 := (H7.out.2.1.2.block _ (lt_of HW.out.2.1) (fun q => by have := (HW.out.2.2.2.2 _ q).1; omega)).trans HW.out.2.1
            clear b0 b1 g0 g1 y0 y1 z0 z1
            obtain ⟨⟨y0, y1⟩, _, _⟩ := blk2 xx7
            have hl7 : (O ++ [(r0, r1)]).length ≤ 1000000 := by rw [List.length_append, List.length_singleton, HOL.out]; omega
            have hsz := H7.out.2.1.1.size
            have H8 : Hid _ := And.intro xx7 (And.intro bx7 hl7)
            clear xx7 bx7 hl7
            have hln7 : (O ++ [(r0, r1)]).length = OL + 1 := by rw [List.length_append, List.length_singleton, HOL.out]
            have hown7 := H7.out.1
            rw [hln7] at hown7 ⊢
            have H9 : Hid _ := hown7
            clear hown7 hln7
            go_wp2_with (first | (at_builtin; go_loud (refine wpList_put w7 .i64 58 26 i58 z58 16 Try.underlying26 hi58 hz0 hzc hz1 hz3 (by decide) (.tmp 59) (.tmp 61) rfl rfl (w.heap.size + 1) (.slice (some ⟨g7, 0, none⟩) (OL + 1) c7) (O ++ [(r0, r1)]) rfl H9.out (x0, x1) rfl H8.out.2.2 (by omega) ?_); intro v' w8 hown8 hb8 hv8; have H10 : Hid _ := And.intro hown8 hb8; clear hown8 hb8 hv8))
            go_roundg g
            case measure => omega
            case rel =>
              refine ⟨k + 1, by omega, by simp, true, (r0, r1), O ++ [(r0, r1)] ++ [(x0, x1)], rfl, ⟨(H10.out.2.2.block _ (lt_of H8.out.2.1) (fun q => by have := (row_base H9.out _ q).1; omega)).trans H8.out.2.1, HE.out, by rw [List.length_append, List.length_append, List.length_singleton, List.length_singleton, HOL.out]; omega, ⟨o1, o2, o3'⟩, H10.out.1, HW.out.2.2.2.1.trans ((H7.out.2.1.1.mono (by omega)).trans (H10.out.2.1.mono (by omega)))⟩⟩
          · have HE : Hid _ := HEE.out.2 (by simp)
            clear HEE
            go_wp2_with (first | (at_builtin; go_loud (refine wpList_put X1 .i64 58 26 i58 z58 16 Try.underlying26 hi58 hz0 hzc hz1 hz3 (by decide) (.tmp 59) (.tmp 61) rfl rfl (w.heap.size + 1) (.slice oa OL oc) O rfl HW.out.1 (x0, x1) rfl HO.out (by omega) ?_); intro v' w7 hown7 hb7 hv7; have H7 : Hid _ := And.intro hown7 hb7; clear hown7 hb7 hv7))
            go_roundg g
            case measure => omega
            case rel =>
              refine ⟨k + 1, by omega, by simp, true, (r0, r1), O ++ [(x0, x1)], rfl, ⟨(H7.out.2.2.block _ (lt_of HW.out.2.1) (fun q => by have := (HW.out.2.2.2.2 _ q).1; omega)).trans HW.out.2.1, HE.out, by rw [List.length_append, List.length_singleton, HOL.out]; omega, ⟨o1, o2, o3'⟩, H7.out.1, HW.out.2.2.2.1.trans (H7.out.2.1.mono (by omega))⟩⟩
        · have hE := HE.out
          rw [if_neg t1, if_neg t2] at hE
          have hrel : ∀ (W : World) (s0 s1 : Int), s0 = min x0 r0 → s1 = max x1 r1 → W.heap[w.heap.size]? = some (.cells #[.int .i64 s0, .int .i64 s1] 58 (0, 0)) → Own .i64 58 W (w.heap.size + 1) (.slice oa OL oc) O → Below w.heap.size w W → PtE (R0, R1) l w (k + 1) (.slice oa OL oc) (.bool d) W := fun W s0 s1 hs0 hs1 hbx how hbl' =>
            ⟨d, (s0, s1), O, rfl, ⟨hbx, by rw [hs0, hs1]; exact hE, by rw [HOL.out]; omega, by have hM : MX = 1114111 := rfl; simp only []; omega, how, hbl'⟩⟩
          have HR : Hid _ := hrel
          clear hE hrel
          have s2 := fun (v0 v1 : Value) => (bset (i := 1) (bset (i := 0) HW.out.2.1 v0) v1)
          simp only [List.setIfInBounds_toArray, List.set_cons_zero, List.set_cons_succ] at s2
          have sa := fun (v0 : Value) => bset (i := 0) HW.out.2.1 v0
          have sb := fun (v0 : Value) => bset (i := 1) HW.out.2.1 v0
          simp only [List.setIfInBounds_toArray, List.set_cons_zero, List.set_cons_succ] at sa sb
          have HS : Hid _ := And.intro s2 (And.intro sa sb)
          clear s2 sa sb
          by_cases u1 : x0 < r0
          · by_cases u2 : r1 < x1
            · go_wp2_with fail
              go_roundg g
              case measure => omega
              case rel => exact ⟨k + 1, by omega, by simp, HR.out _ _ _ (by omega) (by omega) (HS.out.1 _ _) (own_box (own_box HW.out.1 (by omega) _ _) (by omega) _ _) ((HW.out.2.2.2.1.setCell (p := ⟨w.heap.size, 0, none⟩) (Nat.le_refl _) _).setCell (p := ⟨w.heap.size, 1, none⟩) (Nat.le_refl _) _)⟩
            · go_wp2_with fail
              go_roundg g
              case measure => omega
              case rel => exact ⟨k + 1, by omega, by simp, HR.out _ _ _ (by omega) (by omega) (HS.out.2.1 _) (own_box HW.out.1 (by omega) _ _) (HW.out.2.2.2.1.setCell (p := ⟨w.heap.size, 0, none⟩) (Nat.le_refl _) _)⟩
          · by_cases u2 : r1 < x1
            · go_wp2_with fail
              go_roundg g
              case measure => omega
              case rel => exact ⟨k + 1, by omega, by simp, HR.out _ _ _ (by omega) (by omega) (HS.out.2.2 _) (own_box HW.out.1 (by omega) _ _) (HW.out.2.2.2.1.setCell (p := ⟨w.heap.size, 1, none⟩) (Nat.le_refl _) _)⟩
            · go_wp2_with fail
              go_roundg g
              case measure => omega
              case rel => exact ⟨k + 1, by omega, by simp, HR.out _ _ _ (by omega) (by omega) HW.out.2.1 HW.out.1 HW.out.2.2.2.1⟩
    · have hkl : k = l.length := by omega
      subst hkl
      have heq := HP.out.eq
      rw [List.drop_length, put_nil] at heq
      have hol : O.length ≤ 1000000 := by have := HOL.out; omega
      have hwl : w.heap.size < wr.heap.size := lt_of HP.out.box
      cases d
      · rw [if_neg (by simp)] at heq
        have HE : Hid _ := And.intro heq hol
        clear heq hol
        go_wp2_with (first | (at_builtin; go_loud (refine wpList_put wr .i64 58 26 i58 z58 16 Try.underlying26 hi58 hz0 hzc hz1 hz3 (by decide) (.tmp 65) (.tmp 67) rfl rfl (w.heap.size + 1) (.slice oa OL oc) O rfl HP.out.own (r0, r1) rfl HE.out.2 (by omega) ?_); intro v' w7 hown7 hb7 hv7; have H7 : Hid _ := And.intro hown7 (And.intro hb7 hv7); clear hown7 hb7 hv7))
        obtain ⟨g7, c7, hv7⟩ := H7.out.2.2
        subst hv7
        go_ret
        have hown7 := H7.out.1
        rw [HE.out.1] at hown7
        refine ⟨_, c7, by rw [← HE.out.1]; rfl, hown7.mono (by omega), HP.out.bel.trans (H7.out.2.1.1.mono (by omega))⟩
      · rw [if_pos rfl, List.append_nil] at heq
        have HE : Hid _ := heq
        clear heq hol
        go_wp2_with fail
        go_ret
        have hown7 := HP.out.own
        rw [HE.out] at hown7
        refine ⟨oa, oc, by rw [← HE.out, HOL.out]; rfl, ?_, HP.out.bel⟩
        rw [← HE.out, HOL.out, HE.out]
        exact hown7.mono (by omega)
end Go.Proofs.Yteddjjabbehfdaa
