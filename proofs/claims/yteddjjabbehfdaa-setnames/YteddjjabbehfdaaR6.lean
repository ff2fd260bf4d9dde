/- The second telling: Right. -/
import Derived.Test.YteddjjabbehfdaaR5
namespace Go.Proofs.Yteddjjabbehfdaa
open Go.RowKit
set_option linter.unusedVariables false

set_option maxHeartbeats 4000000 in
theorem rright_r (v : Value) (l : List Rg) (w : World) (h : Sl .i64 w v l) (hn : l.length ≤ 1000000) : Calls Try.prog 15 #[sV v] w fun e w' => e = .returned (.bool (rtB 0 l)) ∧ Below w.heap.size w w' := by
  obtain ⟨a, cap, rfl, hcap⟩ := h.len
  have hx := nw_heap w (.cells #[.slice a l.length cap] 28)
  have hbW : Below w.heap.size w (w.alloc (.cells #[.slice a l.length cap] 28)) := (Below.refl _ _).alloc (Nat.le_refl _) _
  obtain ⟨T, hT⟩ : ∃ T, rtB 0 l = T := ⟨_, rfl⟩
  rw [hT]
  go_enter Try.func15, Try.ntmps15
  go_upto_region 1 with fail
  obtain ⟨W, hW⟩ : ∃ W, w.alloc (.cells #[.slice a l.length cap] 28) = W := ⟨_, rfl⟩
  rw [hW] at hx hbW ⊢
  have HX : Hid _ := And.intro (h.below hbW) (And.intro hx (And.intro hbW hT))
  clear h hx hbW hW hT
  go_wp2_with fail
  go_loopg [3] l.length (fun g v3 wr => ∃ (k : Nat) (f : Int), k + g = l.length ∧ v3 = .int .i64 (k : Int) ∧ 0 ≤ f ∧ rtB f (l.drop k) = T ∧ (k = 0 → f = 0) ∧ (∀ (j : Nat) (hj : j < l.length), k = j + 1 → f = l[j].2 + 2 ∧ l[j].2 ≤ 1114111) ∧ Below W.heap.size W wr)
  case atStart => exact ⟨0, 0, by omega, rfl, by omega, HX.out.2.2.2, fun _ => rfl, fun j hj q => by omega, Below.refl _ _⟩
  case round =>
    obtain ⟨k, f, hk, rfl, f0, hr, hz, hp, hb⟩ := hrel
    have y1 := (hb.block _ (lt_of HX.out.2.1)).trans HX.out.2.1
    obtain ⟨c0, _⟩ := blk1 y1
    have HB : Hid _ := hb
    clear hb y1
    by_cases hlt : k < l.length
    · obtain ⟨g, rfl⟩ : ∃ g, gk = g + 1 := ⟨gk - 1, by omega⟩
      obtain ⟨a', c', e, _, hx⟩ := HX.out.1
      simp only [Value.slice.injEq] at e
      obtain ⟨rfl, hdd, rfl⟩ := e
      clear hdd
      rcases hx with hx | ⟨b, off, rfl, hbl, hx⟩
      · rw [hx] at hlt; simp at hlt
      obtain ⟨q0, q1⟩ := hx k hlt
      have e0 := (HB.out.cell (p := ⟨b, off + k * 2, none⟩) hbl).trans q0
      have e1 := (HB.out.cell (p := ⟨b, off + k * 2 + 1, none⟩) hbl).trans q1
      rw [List.drop_eq_getElem_cons hlt, rtB] at hr
      have hnext : ∀ j (hj : j < l.length), k + 1 = j + 1 → j = k := fun j hj q => by omega
      obtain ⟨r, hrr⟩ : ∃ r, l[k] = r := ⟨_, rfl⟩
      rw [hrr] at q0 q1 e0 e1 hr
      have HR : Hid _ := hrr
      clear hrr hnext q0 q1
      obtain ⟨r0, r1⟩ := r
      dsimp only at *
      have hxp := hx
      have HXP : Hid _ := hxp
      clear hx hxp
      go_upto_region 5 with fail
      obtain ⟨X1, hX1⟩ : ∃ X1, wr.alloc (.cells #[.int .i64 r0, .int .i64 r1] 58) = X1 := ⟨_, rfl⟩
      rw [hX1]
      have hbX : Below wr.heap.size wr X1 := by rw [← hX1]; exact (Below.refl _ _).alloc (Nat.le_refl _) _
      have hxx : X1.heap[wr.heap.size]? = some (.cells #[.int .i64 r0, .int .i64 r1] 58 (0, 0)) := by rw [← hX1]; exact nw_heap _ _
      have hWX : Below W.heap.size W X1 := HB.out.trans (hbX.mono HB.out.size)
      clear e0 e1 c0 hX1 hbX
      obtain ⟨⟨y0, y1⟩, _, _⟩ := blk2 hxx
      obtain ⟨c0, _⟩ := blk1 ((hWX.block _ (lt_of HX.out.2.1)).trans HX.out.2.1)
      have HW : Hid _ := hWX
      clear hxx hWX
      have hrel : ∀ q, rtB (r1 + 2) (l.drop (k + 1)) = T → 0 ≤ r1 + 2 → r1 ≤ 1114111 → ∃ (k' : Nat) (f' : Int), k' + g = l.length ∧ Value.int .i64 ((k : Int) + 1) = .int .i64 (k' : Int) ∧ 0 ≤ f' ∧ rtB f' (l.drop k') = T ∧ (k' = 0 → f' = 0) ∧ (∀ (j : Nat) (hj : j < l.length), k' = j + 1 → f' = l[j].2 + 2 ∧ l[j].2 ≤ 1114111) ∧ Below W.heap.size W (X1.drewN q) := fun q h1 h2 h3 =>
        ⟨k + 1, r1 + 2, by omega, by simp, h2, h1, fun q => by omega, fun j hj q' => by
          obtain rfl : j = k := by omega
          rw [HR.out]
          exact ⟨rfl, h3⟩, bdrewN HW.out q⟩
      have HL : Hid _ := hrel
      clear hrel
      by_cases t1 : r0 < 0
      · have d1 : decide (r0 < 0) = true := by simpa using t1
        have hf : T = false := by rw [← hr, decide_eq_true (show r0 < f by omega)]; rfl
        subst hf
        clear hr hz hp
        go_wp2_with fail
        go_quiet (fail)
        go_wp2_with fail
        go_ret
        exact ⟨rfl, HX.out.2.2.1.trans ((bdrewN HW.out _).mono HX.out.2.2.1.size)⟩
      · have d1 : decide (r0 < 0) = false := by simpa using t1
        by_cases t2 : 1114111 < r1
        · have d2 : decide (1114111 < r1) = true := by simpa using t2
          have hf : T = false := by rw [← hr, decide_eq_true (show MX < r1 from t2)]; simp
          subst hf
          clear hr hz hp
          go_wp2_with fail
          go_quiet (fail)
          go_wp2_with fail
          go_ret
          exact ⟨rfl, HX.out.2.2.1.trans ((bdrewN HW.out _).mono HX.out.2.2.1.size)⟩
        · have d2 : decide (1114111 < r1) = false := by simpa using t2
          by_cases t3 : r1 < r0
          · have d3 : decide (r1 < r0) = true := by simpa using t3
            have hf : T = false := by rw [← hr, d3]; simp
            subst hf
            clear hr hz hp
            go_wp2_with fail
            go_quiet (fail)
            go_wp2_with fail
            go_ret
            exact ⟨rfl, HX.out.2.2.1.trans ((bdrewN HW.out _).mono HX.out.2.2.1.size)⟩
          · have d3 : decide (r1 < r0) = false := by simpa using t3
            have dM : decide (MX < r1) = false := decide_eq_false (show ¬ MX < r1 from t2)
            rw [d3, dM] at hr
            cases k with
            | zero =>
              have hf0 := hz rfl
              subst hf0
              rw [d1] at hr
              have hr' : rtB (r1 + 2) (l.drop (0 + 1)) = T := by simpa using hr
              have HRR : Hid _ := hr'
              clear hr hr' hz hp
              go_wp2_with fail
              go_quiet (fail)
              go_wp2_with fail
              go_roundg g
              case measure => omega
              case rel => exact HL.out _ HRR.out (by omega) (by omega)
            | succ j =>
              obtain ⟨hf1, hf2⟩ := hp j (by omega) rfl
              obtain ⟨q0, q1⟩ := HXP.out j (by omega)
              have p1 := (HW.out.cell (p := ⟨b, off + j * 2 + 1, none⟩) hbl).trans q1
              obtain ⟨P, hP⟩ : ∃ P, l[j].2 = P := ⟨_, rfl⟩
              rw [hP] at hf1 hf2 p1
              clear q0 q1 hP hz hp
              subst hf1
              have i0 : IntKind.i64.wrap (((j + 1 : Nat) : Int) - 1) = (j : Int) := by rw [IntKind.wrap_i64]; omega
              have i1 : (((j + 1 : Nat) : Int) - 1) = (j : Int) := by omega
              have i2 : decide ((0 : Int) < ((j + 1 : Nat) : Int)) = true := by simp
              have i3 : (0 : Int) ≤ (j : Int) := by omega
              have i4 : (j : Int) < (l.length : Int) := by omega
              have i5 : IntKind.i64.wrap (P + 2) = P + 2 := by rw [IntKind.wrap_i64]; omega
              by_cases t4 : r0 < P + 2
              · have d4 : decide (r0 < P + 2) = true := by simpa using t4
                rw [d4] at hr
                have hf : T = false := by rw [← hr]; rfl
                subst hf
                clear hr
                go_wp2_with fail
                go_quiet (fail)
                go_wp2_with fail
                go_ret
                exact ⟨rfl, HX.out.2.2.1.trans ((bdrewN HW.out _).mono HX.out.2.2.1.size)⟩
              · have d4 : decide (r0 < P + 2) = false := by simpa using t4
                rw [d4] at hr
                have hr' : rtB (r1 + 2) (l.drop (j + 1 + 1)) = T := by simpa using hr
                have HRR : Hid _ := hr'
                clear hr hr'
                go_wp2_with fail
                go_quiet (fail)
                go_wp2_with fail
                go_roundg g
                case measure => omega
                case rel => exact HL.out _ HRR.out (by omega) (by omega)
    · have hkl : k = l.length := by omega
      subst hkl
      rw [List.drop_length] at hr
      have hT : T = true := hr.symm
      subst hT
      clear hr hz hp
      go_wp2_with fail
      go_ret
      exact ⟨rfl, HX.out.2.2.1.trans (HB.out.mono HX.out.2.2.1.size)⟩
end Go.Proofs.Yteddjjabbehfdaa
