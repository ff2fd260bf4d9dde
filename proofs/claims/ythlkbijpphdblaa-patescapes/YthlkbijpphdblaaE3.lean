/- PatEscapes: the walk. -/
import Derived.Test.YthlkbijpphdblaaE2
namespace Go.Proofs.Ythlkbijpphdblaa
open Go.RowKit
set_option linter.unusedVariables false
set_option linter.constructorNameAsVariable false

abbrev sgB : ByteArray := ⟨#[46, 92, 63, 42, 43, 40, 41, 124, 91, 93, 123, 125, 45, 94]⟩
theorem sg_at (i : Nat) (h : i < sgB.size) : ((sgB[i]'h).toNat : Int) = sgL.getD i 0 := by
  have h14 : i < 14 := h
  have := (by decide +kernel : ∀ j : Fin 14, ((sgB[j.1]'(j.2)).toNat : Int) = sgL.getD j.1 0) ⟨i, h14⟩
  exact this
theorem sg_nx (c : Int) (i : Nat) (h : i < 14) : (sgL.take (i + 1)).contains c = ((sgL.take i).contains c || decide (sgL.getD i 0 = c)) := by
  have e := (by decide +kernel : ∀ j : Fin 14, sgL.take (j.1 + 1) = sgL.take j.1 ++ [sgL.getD j.1 0]) ⟨i, h⟩
  simp only at e
  rw [e]
  generalize sgL.take i = T
  generalize sgL.getD i 0 = x
  by_cases h1 : c ∈ T <;> by_cases h2 : x = c <;> simp [h1, h2, eq_comm]
  omega
set_option maxRecDepth 4000 in
set_option maxHeartbeats 8000000 in
theorem escapes_s (c a b : Int) (w : World) (hc0 : 0 ≤ c) (hc1 : c < 256) : Calls Try.prog 4 #[.int .u8 c, .int .i32 a, .int .i32 b] w fun e w' => e = .returned (.bool true) ∧ Below w.heap.size w w' := by
  have hE := okE_p c hc0 hc1
  unfold okE at hE
  obtain ⟨X, hX⟩ : ∃ X, parS [92, c] = X := ⟨_, rfl⟩
  rw [hX] at hE
  go_enter Try.func4, Try.ntmps4
  go_wp2_with fail
  refine Calls.mono (known_p w) ?_
  rintro e w0 ⟨rfl, hb0⟩
  have H0 : Hid _ := And.intro hb0 (And.intro hE hX)
  clear hb0 hE hX
  have hcv := conv_one c w0
  have hsum : ¬ (9223372036854775807 < 1 + (sb [c]).size) := by rw [sb_one_size]; omega
  go_wp2_with fail
  have hbl : bl (⟨#[92]⟩ ++ sb [c]) = [92, c] := by rw [bl_app, bl_one hc0 hc1]; rfl
  refine Calls.mono (parse_p _ _) ?_
  intro e w1 hq
  rw [hbl, H0.out.2.2] at hq
  clear hcv hsum hbl
  obtain ⟨hb0, hE, _⟩ := H0.out
  clear H0
  cases X with
  | bad p er =>
    obtain ⟨rfl, hb1⟩ := hq
    simp only [Bool.and_eq_true, decide_eq_true_eq, Bool.not_eq_true'] at hE
    obtain ⟨⟨⟨⟨⟨hne, he0, he9⟩, hp0, hp2⟩, h1⟩, h2⟩, h3⟩ := hE
    have bA : Below w0.heap.size w0 w1 := ((Below.refl w0.heap.size w0).alloc (Nat.le_refl _) _).trans (hb1.mono (by rw [sza]; omega))
    have b1 := (hb0.trans (bA.mono hb0.size))
    have b1' : Below w.heap.size w (w1.alloc (.cells zN 27)) := b1.alloc b1.size _
    have H1 : Hid _ := And.intro b1' (And.intro h1 (And.intro h2 h3))
    clear hb1 bA b1 b1' hb0 h1 h2 h3
    go_wp2_with fail
    refine Calls.mono (esc_p c _) ?_
    rintro e w2 ⟨ea, ec, rfl, hown, hb2⟩
    have H2 : Hid (Below w.heap.size w w2) := H1.out.1.trans (hb2.mono H1.out.1.size)
    clear hown hb2
    go_wp2_with fail
    go_loopg [12, 14] 14 (fun g v12 v14 wr => wr = w2 ∧ ∃ i : Nat, v14 = .int .i64 i ∧ i + g = 14 ∧ v12 = .bool ((sgL.take i).contains c))
    case atStart => exact ⟨rfl, 0, rfl, rfl, rfl⟩
    case round =>
      obtain ⟨hwr, i, rfl, hig, rfl⟩ := hrel
      subst hwr
      by_cases hlt : i < 14
      · obtain ⟨g, rfl⟩ : ∃ g, gk = g + 1 := ⟨gk - 1, by omega⟩
        have hnx := sg_nx c i hlt
        obtain ⟨o, ho⟩ : ∃ o, (sgL.take i).contains c = o := ⟨_, rfl⟩
        rw [ho] at hnx ⊢
        have HX : Hid _ := And.intro hnx ho
        clear hnx ho
        cases o with
        | true =>
          go_wp2_with fail
          go_roundg g
          case measure => omega
          case rel => exact ⟨rfl, i + 1, by simp, by omega, by rw [HX.out.1]; rfl⟩
        | false =>
          go_wp2_with fail
          go_roundg g
          case measure => omega
          case rel =>
            refine ⟨rfl, i + 1, by simp, by omega, ?_⟩
            rw [HX.out.1, Bool.false_or, ← sg_at i hlt]
            rfl
      · have hi : i = 14 := by omega
        subst hi
        have h14 : sgL.take 14 = sgL := rfl
        rw [h14]
        clear h14 hig hlt
        rw [H1.out.2.1, H1.out.2.2.1]
        have h3 := H1.out.2.2.2
        unfold nrt at h3
        simp only [Bool.or_eq_false_iff, decide_eq_false_iff_not] at h3
        obtain ⟨⟨h31, h32⟩, h33⟩ := h3
        obtain ⟨wT, hwT⟩ : ∃ wT, wr = wT := ⟨_, rfl⟩
        have HT : Hid (Below w.heap.size w wT) := by rw [← hwT]; exact H2.out
        rw [hwT]
        clear hwT H1 H2
        have hg : ¬ (2 < p) := by omega
        have e1 : (c == 110) = false := by simpa using h31
        have e2 : (c == 114) = false := by simpa using h32
        have e3 : (c == 116) = false := by simpa using h33
        have e4 : (er == 0) = false := by simpa using hne
        go_upto_region 22 with fail
        by_cases d1 : a < 97
        · go_wp2_with fail
          go_ret
          exact ⟨rfl, HT.out⟩
        by_cases d2 : 122 < a
        · go_wp2_with fail
          go_ret
          exact ⟨rfl, HT.out⟩
        by_cases d3 : b < a
        · go_wp2_with fail
          go_ret
          exact ⟨rfl, HT.out⟩
        by_cases d4 : 122 < b
        · go_wp2_with fail
          go_ret
          exact ⟨rfl, HT.out⟩
        have hP := okP_p a b (by omega) (by omega) (by omega)
        unfold okP at hP
        obtain ⟨Y1, hY1⟩ : ∃ Y, parS [91, 97, 45, 122, 45, 91, a, 45, b, 93, 93] = Y := ⟨_, rfl⟩
        obtain ⟨Y2, hY2⟩ : ∃ Y, parS [91, 94, a, 45, b, 93] = Y := ⟨_, rfl⟩
        rw [hY1, hY2] at hP
        rcases Y1 with ⟨⟨kx, S, mx1, mx2, kx'⟩, px⟩ | ⟨px, ex⟩
        case bad => simp at hP
        rcases Y2 with ⟨⟨ky, T, my1, my2, ky'⟩, py⟩ | ⟨py, ey⟩
        case bad => simp at hP
        simp only [Bool.and_eq_true, decide_eq_true_eq, Bool.not_eq_true'] at hP
        obtain ⟨⟨⟨⟨⟨⟨⟨r1, r2⟩, l1⟩, l2⟩, z1⟩, f1⟩, f2⟩, z2⟩ := hP
        have cS := rt0 r1
        have cT := rt0 r2
        have l1' : S.length ≤ 1000000 := by omega
        have l2' : T.length ≤ 1000000 := by omega
        have HP : Hid _ := And.intro hY1 (And.intro hY2 (And.intro cS (And.intro cT (And.intro l1' (And.intro l2' (And.intro z1 (And.intro f1 (And.intro f2 z2))))))))
        clear hY1 hY2 r1 r2 l1 l2 z1 f1 f2 z2 cS cT l1' l2'
        have ca1 := conv_one a wT
        have cb1 := conv_one b (wT.alloc (.cells #[.int .u8 a] 5))
        rw [sza] at cb1
        have za := sb_one_size a
        have zb := sb_one_size b
        have va : a % 256 = a := by omega
        have vb : b % 256 = b := by omega
        go_wp2_with fail
        have hbl : bl (⟨#[91, 97, 45, 122, 45, 91]⟩ ++ sb [a] ++ ⟨#[45]⟩ ++ sb [b] ++ ⟨#[93, 93]⟩) = [91, 97, 45, 122, 45, 91, a, 45, b, 93, 93] := by
          rw [bl_app, bl_app, bl_app, bl_app, bl_one (by omega) (by omega), bl_one (by omega) (by omega)]
          rfl
        refine Calls.mono (parse_p _ _) ?_
        intro e w5 hq
        rw [hbl, HP.out.1] at hq
        clear ca1 cb1 hbl
        obtain ⟨q0x, s0x, s1x, s2x, q2x, q3x, t0x, t1x, t2x, rfl, hn, hb5⟩ := hq
        obtain ⟨rfl, hs5⟩ := nd_open hn
        clear hn
        have b5 : Below w.heap.size w w5 := by
          have u1 := (HT.out.alloc HT.out.size (.cells #[.int .u8 a] 5))
          have u2 := u1.alloc u1.size (.cells #[.int .u8 b] 5)
          exact u2.trans (hb5.mono u2.size)
        have H5 : Hid _ := And.intro hs5 b5
        clear hs5 b5 hb5
        have ca1 := conv_one a (w5.alloc (.cells #[.int .i64 q0x, .slice s0x s1x s2x, .int .i64 q2x, .int .i64 q3x, .slice t0x t1x t2x] 27))
        have cb1 := conv_one b ((w5.alloc (.cells #[.int .i64 q0x, .slice s0x s1x s2x, .int .i64 q2x, .int .i64 q3x, .slice t0x t1x t2x] 27)).alloc (.cells #[.int .u8 a] 5))
        rw [sza] at ca1
        rw [sza, sza] at cb1
        go_wp2_with fail
        have hbl : bl (⟨#[91, 94]⟩ ++ sb [a] ++ ⟨#[45]⟩ ++ sb [b] ++ ⟨#[93]⟩) = [91, 94, a, 45, b, 93] := by
          rw [bl_app, bl_app, bl_app, bl_app, bl_one (by omega) (by omega), bl_one (by omega) (by omega)]
          rfl
        refine Calls.mono (parse_p _ _) ?_
        intro e w6 hq
        rw [hbl, HP.out.2.1] at hq
        clear ca1 cb1 hbl
        obtain ⟨q0y, s0y, s1y, s2y, q2y, q3y, t0y, t1y, t2y, rfl, hn, hb6⟩ := hq
        obtain ⟨rfl, hs6⟩ := nd_open hn
        clear hn
        have H6 : Hid _ := And.intro hs6 hb6
        clear hs6 hb6
        go_upto_region 26 with fail
        obtain ⟨hs5, b5⟩ := H5.out
        obtain ⟨hs6, hb6⟩ := H6.out
        clear H5 H6
        obtain ⟨W, hW⟩ : ∃ W, w6.alloc (.cells #[.int .i64 q0y, .slice s0y s1y s2y, .int .i64 q2y, .int .i64 q3y, .slice t0y t1y t2y] 27) = W := ⟨_, rfl⟩
        have bW : Below w6.heap.size w6 W := by rw [← hW]; exact (Below.refl _ _).alloc (Nat.le_refl _) _
        have xY : W.heap[w6.heap.size]? = some (.cells #[.int .i64 q0y, .slice s0y s1y s2y, .int .i64 q2y, .int .i64 q3y, .slice t0y t1y t2y] 27) := by rw [← hW]; exact nw_heap w6 (.cells #[.int .i64 q0y, .slice s0y s1y s2y, .int .i64 q2y, .int .i64 q3y, .slice t0y t1y t2y] 27)
        have xX := nw_heap w5 (.cells #[.int .i64 q0x, .slice s0x s1x s2x, .int .i64 q2x, .int .i64 q3x, .slice t0x t1x t2x] 27)
        have bX : Below w5.heap.size w5 (w5.alloc (.cells #[.int .i64 q0x, .slice s0x s1x s2x, .int .i64 q2x, .int .i64 q3x, .slice t0x t1x t2x] 27)) := (Below.refl _ _).alloc (Nat.le_refl _) _
        have zX := sza w5 (.cells #[.int .i64 q0x, .slice s0x s1x s2x, .int .i64 q2x, .int .i64 q3x, .slice t0x t1x t2x] 27)
        have bX6 : Below (w5.heap.size + 1) (w5.alloc (.cells #[.int .i64 q0x, .slice s0x s1x s2x, .int .i64 q2x, .int .i64 q3x, .slice t0x t1x t2x] 27)) w6 := by
          have u1 := ((Below.refl (w5.heap.size + 1) (w5.alloc (.cells #[.int .i64 q0x, .slice s0x s1x s2x, .int .i64 q2x, .int .i64 q3x, .slice t0x t1x t2x] 27))).alloc (by rw [zX]; exact Nat.le_refl _) (.cells #[.int .u8 a] 5))
          have u2 := u1.alloc (by rw [sza, zX]; omega) (.cells #[.int .u8 b] 5)
          exact u2.trans (hb6.mono (by rw [sza, sza, zX]; omega))
        have bXW := bX6.trans (bW.mono (by have := bX6.size; omega))
        have xXW := (bXW.block w5.heap.size (by omega)).trans xX
        have b5W := bX.trans (bXW.mono (by omega))
        have hs5W := hs5.below b5W
        have hs6W := hs6.below bW
        have b0W := b5.trans (b5W.mono b5.size)
        rw [hW]
        obtain ⟨X5, hX5⟩ : ∃ X, w5.heap.size = X := ⟨_, rfl⟩
        obtain ⟨X6, hX6⟩ : ∃ X, w6.heap.size = X := ⟨_, rfl⟩
        rw [hX6] at xY ⊢
        rw [hX5] at xXW ⊢
        clear hs5 b5 hs6 hb6 bW xX bX zX bX6 bXW b5W hW hX5 hX6
        obtain ⟨⟨k0, k1, k2, k3, k4⟩, _⟩ := cells5 xXW
        obtain ⟨⟨j0, j1, j2, j3, j4⟩, _⟩ := cells5 xY
        have HW : Hid _ := And.intro hs5W (And.intro hs6W (And.intro b0W (And.intro xXW xY)))
        clear hs5W hs6W b0W xXW xY k0 k2 k3 k4 j0 j1 j2 j3 j4
        have hz1 := HP.out.2.2.2.2.2.2.1
        have hf1 := HP.out.2.2.2.2.2.2.2.1
        have hf2 := HP.out.2.2.2.2.2.2.2.2.1
        have hz2 := HP.out.2.2.2.2.2.2.2.2.2
        have HZ : Hid _ := And.intro hz1 (And.intro hf1 (And.intro hf2 hz2))
        clear hz1 hf1 hf2 hz2
        go_wp2_with fail
        refine Calls.mono (size_p _ S _ HW.out.1 HP.out.2.2.1 HP.out.2.2.2.2.1) ?_
        rintro e w7 ⟨rfl, b7⟩
        rw [HZ.out.1]
        have x7 := (b7.block X5 (lt_of HW.out.2.2.2.1)).trans HW.out.2.2.2.1
        clear k1
        obtain ⟨⟨k0, k1, k2, k3, k4⟩, _⟩ := cells5 x7
        have H7 : Hid _ := b7
        clear b7 x7 k0 k2 k3 k4
        go_wp2_with fail
        refine Calls.mono (has_p _ S a _ (HW.out.1.below H7.out) HP.out.2.2.1 HP.out.2.2.2.2.1) ?_
        rintro e w8 ⟨rfl, b8'⟩
        rw [HZ.out.2.1]
        have b8 := H7.out.trans (b8'.mono H7.out.size)
        have x8 := (b8.block X6 (lt_of HW.out.2.2.2.2)).trans HW.out.2.2.2.2
        clear k1
        obtain ⟨⟨k0, k1, k2, k3, k4⟩, _⟩ := cells5 x8
        have H8 : Hid _ := b8
        clear b8 b8' x8 k0 k2 k3 k4
        go_wp2_with fail
        refine Calls.mono (has_p _ T b _ (HW.out.2.1.below H8.out) HP.out.2.2.2.1 HP.out.2.2.2.2.2.1) ?_
        rintro e w9 ⟨rfl, b9'⟩
        rw [HZ.out.2.2.1]
        have b9 := H8.out.trans (b9'.mono H8.out.size)
        have x9 := (b9.block X6 (lt_of HW.out.2.2.2.2)).trans HW.out.2.2.2.2
        clear k1
        obtain ⟨⟨k0, k1, k2, k3, k4⟩, _⟩ := cells5 x9
        have H9 : Hid _ := b9
        clear b9 b9' x9 k0 k2 k3 k4
        go_wp2_with fail
        refine Calls.mono (size_p _ T _ (HW.out.2.1.below H9.out) HP.out.2.2.2.1 HP.out.2.2.2.2.2.1) ?_
        rintro e wz ⟨rfl, bz'⟩
        rw [HZ.out.2.2.2]
        have HF : Hid (Below w.heap.size w wz) := HW.out.2.2.1.trans ((H9.out.trans (bz'.mono H9.out.size)).mono HW.out.2.2.1.size)
        clear bz' k1
        go_wp2_with fail
        go_ret
        exact ⟨rfl, HF.out⟩
  | ok n pl =>
  obtain ⟨q0, s0, s1, s2, q2, q3, t0, t1, t2, rfl, hn, hb1⟩ := hq
  obtain ⟨k, s, m1, m2, ks⟩ := n
  obtain ⟨rfl, hsl⟩ := nd_open hn
  clear hn
  simp only [Bool.and_eq_true, decide_eq_true_eq] at hE
  obtain ⟨⟨hrt, hln⟩, hE⟩ := hE
  have hcn := rt0 hrt
  have xR := nw_heap w1 (.cells #[.int .i64 q0, .slice s0 s1 s2, .int .i64 q2, .int .i64 q3, .slice t0 t1 t2] 27)
  have bR : Below w1.heap.size w1 (w1.alloc (.cells #[.int .i64 q0, .slice s0 s1 s2, .int .i64 q2, .int .i64 q3, .slice t0 t1 t2] 27)) := (Below.refl _ _).alloc (Nat.le_refl _) _
  have zR := sza w1 (.cells #[.int .i64 q0, .slice s0 s1 s2, .int .i64 q2, .int .i64 q3, .slice t0 t1 t2] 27)
  have bA : Below w0.heap.size w0 w1 := ((Below.refl w0.heap.size w0).alloc (Nat.le_refl _) _).trans (hb1.mono (by rw [sza]; omega))
  have b1 := hb0.trans (bA.mono hb0.size)
  have H1 : Hid _ := And.intro hsl (And.intro b1 (And.intro hE (And.intro hcn (And.intro hln (And.intro xR (And.intro bR zR))))))
  clear hsl hb1 hE hcn hln xR bR zR bA b1 hrt hb0
  go_wp2_with fail
  refine Calls.mono (esc_p c _) ?_
  rintro e w2 ⟨ea, ec, rfl, hown, hb2⟩
  obtain ⟨hsl, b1, hE, hcn, hln, xR, bR, zR⟩ := H1.out
  clear H1
  have x2 := (hb2.block w1.heap.size (by rw [zR]; omega)).trans xR
  have b12 := bR.trans (hb2.mono bR.size)
  have hs2 := hsl.below b12
  have b2 := b1.trans (b12.mono b1.size)
  have he2 := hown.sl
  clear xR bR zR hb2 b12 hsl b1 hown
  obtain ⟨X, hX⟩ : ∃ X, w1.heap.size = X := ⟨_, rfl⟩
  rw [hX] at x2 ⊢
  clear hX
  have H2 : Hid _ := And.intro x2 (And.intro hs2 (And.intro b2 (And.intro he2 (And.intro hE (And.intro hcn hln)))))
  clear x2 hs2 b2 he2 hE hcn hln
  go_wp2_with fail
  go_loopg [12, 14] 14 (fun g v12 v14 wr => wr = w2 ∧ ∃ i : Nat, v14 = .int .i64 i ∧ i + g = 14 ∧ v12 = .bool ((sgL.take i).contains c))
  case atStart => exact ⟨rfl, 0, rfl, rfl, rfl⟩
  case round =>
    obtain ⟨hwr, i, rfl, hig, rfl⟩ := hrel
    subst hwr
    by_cases hlt : i < 14
    · obtain ⟨g, rfl⟩ : ∃ g, gk = g + 1 := ⟨gk - 1, by omega⟩
      have hnx := sg_nx c i hlt
      obtain ⟨o, ho⟩ : ∃ o, (sgL.take i).contains c = o := ⟨_, rfl⟩
      rw [ho] at hnx ⊢
      have HX : Hid _ := And.intro hnx ho
      clear hnx ho
      cases o with
      | true =>
        go_wp2_with fail
        go_roundg g
        case measure => omega
        case rel => exact ⟨rfl, i + 1, by simp, by omega, by rw [HX.out.1]; rfl⟩
      | false =>
        go_wp2_with fail
        go_roundg g
        case measure => omega
        case rel =>
          refine ⟨rfl, i + 1, by simp, by omega, ?_⟩
          rw [HX.out.1, Bool.false_or, ← sg_at i hlt]
          rfl
    · have hi : i = 14 := by omega
      subst hi
      have h14 : sgL.take 14 = sgL := rfl
      rw [h14]
      clear h14 hig hlt
      obtain ⟨x2, hs2, b2, he2, hE, hcn, hln⟩ := H2.out
      clear H2
      obtain ⟨⟨k0, k1, k2, k3, k4⟩, _⟩ := cells5 x2
      by_cases h1 : sgL.contains c = true
      · rw [if_pos h1] at hE
        simp only [Bool.and_eq_true, decide_eq_true_eq] at hE
        obtain ⟨⟨rfl, hz⟩, hm⟩ := hE
        have HB : Hid _ := And.intro x2 (And.intro hs2 (And.intro b2 (And.intro hcn (And.intro hln (And.intro hz hm)))))
        clear x2 hs2 b2 hcn hln hz hm he2
        rw [h1]
        clear h1
        go_wp2_with fail
        refine Calls.mono (size_p _ s _ HB.out.2.1 HB.out.2.2.2.1 (by have := HB.out.2.2.2.2.1; omega)) ?_
        rintro e w3 ⟨rfl, hb3⟩
        rw [HB.out.2.2.2.2.2.1]
        have x3 := (hb3.block X (lt_of HB.out.1)).trans HB.out.1
        clear k0 k1 k2 k3 k4
        obtain ⟨⟨k0, k1, k2, k3, k4⟩, _⟩ := cells5 x3
        have HC : Hid _ := hb3
        clear hb3 x3
        go_wp2_with fail
        refine Calls.mono (has_p _ s c _ (HB.out.2.1.below HC.out) HB.out.2.2.2.1 (by have := HB.out.2.2.2.2.1; omega)) ?_
        rintro e wT ⟨rfl, hb4⟩
        rw [HB.out.2.2.2.2.2.2]
        have HT : Hid (Below w.heap.size w wT) := HB.out.2.2.1.trans ((HC.out.trans (hb4.mono HC.out.size)).mono HB.out.2.2.1.size)
        clear hb4 HC HB k0 k1 k2 k3 k4
        go_upto_region 22 with fail
        by_cases d1 : a < 97
        · go_wp2_with fail
          go_ret
          exact ⟨rfl, HT.out⟩
        by_cases d2 : 122 < a
        · go_wp2_with fail
          go_ret
          exact ⟨rfl, HT.out⟩
        by_cases d3 : b < a
        · go_wp2_with fail
          go_ret
          exact ⟨rfl, HT.out⟩
        by_cases d4 : 122 < b
        · go_wp2_with fail
          go_ret
          exact ⟨rfl, HT.out⟩
        have hP := okP_p a b (by omega) (by omega) (by omega)
        unfold okP at hP
        obtain ⟨Y1, hY1⟩ : ∃ Y, parS [91, 97, 45, 122, 45, 91, a, 45, b, 93, 93] = Y := ⟨_, rfl⟩
        obtain ⟨Y2, hY2⟩ : ∃ Y, parS [91, 94, a, 45, b, 93] = Y := ⟨_, rfl⟩
        rw [hY1, hY2] at hP
        rcases Y1 with ⟨⟨kx, S, mx1, mx2, kx'⟩, px⟩ | ⟨px, ex⟩
        case bad => simp at hP
        rcases Y2 with ⟨⟨ky, T, my1, my2, ky'⟩, py⟩ | ⟨py, ey⟩
        case bad => simp at hP
        simp only [Bool.and_eq_true, decide_eq_true_eq, Bool.not_eq_true'] at hP
        obtain ⟨⟨⟨⟨⟨⟨⟨r1, r2⟩, l1⟩, l2⟩, z1⟩, f1⟩, f2⟩, z2⟩ := hP
        have cS := rt0 r1
        have cT := rt0 r2
        have l1' : S.length ≤ 1000000 := by omega
        have l2' : T.length ≤ 1000000 := by omega
        have HP : Hid _ := And.intro hY1 (And.intro hY2 (And.intro cS (And.intro cT (And.intro l1' (And.intro l2' (And.intro z1 (And.intro f1 (And.intro f2 z2))))))))
        clear hY1 hY2 r1 r2 l1 l2 z1 f1 f2 z2 cS cT l1' l2'
        have ca1 := conv_one a wT
        have cb1 := conv_one b (wT.alloc (.cells #[.int .u8 a] 5))
        rw [sza] at cb1
        have za := sb_one_size a
        have zb := sb_one_size b
        have va : a % 256 = a := by omega
        have vb : b % 256 = b := by omega
        go_wp2_with fail
        have hbl : bl (⟨#[91, 97, 45, 122, 45, 91]⟩ ++ sb [a] ++ ⟨#[45]⟩ ++ sb [b] ++ ⟨#[93, 93]⟩) = [91, 97, 45, 122, 45, 91, a, 45, b, 93, 93] := by
          rw [bl_app, bl_app, bl_app, bl_app, bl_one (by omega) (by omega), bl_one (by omega) (by omega)]
          rfl
        refine Calls.mono (parse_p _ _) ?_
        intro e w5 hq
        rw [hbl, HP.out.1] at hq
        clear ca1 cb1 hbl
        obtain ⟨q0x, s0x, s1x, s2x, q2x, q3x, t0x, t1x, t2x, rfl, hn, hb5⟩ := hq
        obtain ⟨rfl, hs5⟩ := nd_open hn
        clear hn
        have b5 : Below w.heap.size w w5 := by
          have u1 := (HT.out.alloc HT.out.size (.cells #[.int .u8 a] 5))
          have u2 := u1.alloc u1.size (.cells #[.int .u8 b] 5)
          exact u2.trans (hb5.mono u2.size)
        have H5 : Hid _ := And.intro hs5 b5
        clear hs5 b5 hb5
        have ca1 := conv_one a (w5.alloc (.cells #[.int .i64 q0x, .slice s0x s1x s2x, .int .i64 q2x, .int .i64 q3x, .slice t0x t1x t2x] 27))
        have cb1 := conv_one b ((w5.alloc (.cells #[.int .i64 q0x, .slice s0x s1x s2x, .int .i64 q2x, .int .i64 q3x, .slice t0x t1x t2x] 27)).alloc (.cells #[.int .u8 a] 5))
        rw [sza] at ca1
        rw [sza, sza] at cb1
        go_wp2_with fail
        have hbl : bl (⟨#[91, 94]⟩ ++ sb [a] ++ ⟨#[45]⟩ ++ sb [b] ++ ⟨#[93]⟩) = [91, 94, a, 45, b, 93] := by
          rw [bl_app, bl_app, bl_app, bl_app, bl_one (by omega) (by omega), bl_one (by omega) (by omega)]
          rfl
        refine Calls.mono (parse_p _ _) ?_
        intro e w6 hq
        rw [hbl, HP.out.2.1] at hq
        clear ca1 cb1 hbl
        obtain ⟨q0y, s0y, s1y, s2y, q2y, q3y, t0y, t1y, t2y, rfl, hn, hb6⟩ := hq
        obtain ⟨rfl, hs6⟩ := nd_open hn
        clear hn
        have H6 : Hid _ := And.intro hs6 hb6
        clear hs6 hb6
        go_upto_region 26 with fail
        obtain ⟨hs5, b5⟩ := H5.out
        obtain ⟨hs6, hb6⟩ := H6.out
        clear H5 H6
        obtain ⟨W, hW⟩ : ∃ W, w6.alloc (.cells #[.int .i64 q0y, .slice s0y s1y s2y, .int .i64 q2y, .int .i64 q3y, .slice t0y t1y t2y] 27) = W := ⟨_, rfl⟩
        have bW : Below w6.heap.size w6 W := by rw [← hW]; exact (Below.refl _ _).alloc (Nat.le_refl _) _
        have xY : W.heap[w6.heap.size]? = some (.cells #[.int .i64 q0y, .slice s0y s1y s2y, .int .i64 q2y, .int .i64 q3y, .slice t0y t1y t2y] 27) := by rw [← hW]; exact nw_heap w6 (.cells #[.int .i64 q0y, .slice s0y s1y s2y, .int .i64 q2y, .int .i64 q3y, .slice t0y t1y t2y] 27)
        have xX := nw_heap w5 (.cells #[.int .i64 q0x, .slice s0x s1x s2x, .int .i64 q2x, .int .i64 q3x, .slice t0x t1x t2x] 27)
        have bX : Below w5.heap.size w5 (w5.alloc (.cells #[.int .i64 q0x, .slice s0x s1x s2x, .int .i64 q2x, .int .i64 q3x, .slice t0x t1x t2x] 27)) := (Below.refl _ _).alloc (Nat.le_refl _) _
        have zX := sza w5 (.cells #[.int .i64 q0x, .slice s0x s1x s2x, .int .i64 q2x, .int .i64 q3x, .slice t0x t1x t2x] 27)
        have bX6 : Below (w5.heap.size + 1) (w5.alloc (.cells #[.int .i64 q0x, .slice s0x s1x s2x, .int .i64 q2x, .int .i64 q3x, .slice t0x t1x t2x] 27)) w6 := by
          have u1 := ((Below.refl (w5.heap.size + 1) (w5.alloc (.cells #[.int .i64 q0x, .slice s0x s1x s2x, .int .i64 q2x, .int .i64 q3x, .slice t0x t1x t2x] 27))).alloc (by rw [zX]; exact Nat.le_refl _) (.cells #[.int .u8 a] 5))
          have u2 := u1.alloc (by rw [sza, zX]; omega) (.cells #[.int .u8 b] 5)
          exact u2.trans (hb6.mono (by rw [sza, sza, zX]; omega))
        have bXW := bX6.trans (bW.mono (by have := bX6.size; omega))
        have xXW := (bXW.block w5.heap.size (by omega)).trans xX
        have b5W := bX.trans (bXW.mono (by omega))
        have hs5W := hs5.below b5W
        have hs6W := hs6.below bW
        have b0W := b5.trans (b5W.mono b5.size)
        rw [hW]
        obtain ⟨X5, hX5⟩ : ∃ X, w5.heap.size = X := ⟨_, rfl⟩
        obtain ⟨X6, hX6⟩ : ∃ X, w6.heap.size = X := ⟨_, rfl⟩
        rw [hX6] at xY ⊢
        rw [hX5] at xXW ⊢
        clear hs5 b5 hs6 hb6 bW xX bX zX bX6 bXW b5W hW hX5 hX6
        obtain ⟨⟨k0, k1, k2, k3, k4⟩, _⟩ := cells5 xXW
        obtain ⟨⟨j0, j1, j2, j3, j4⟩, _⟩ := cells5 xY
        have HW : Hid _ := And.intro hs5W (And.intro hs6W (And.intro b0W (And.intro xXW xY)))
        clear hs5W hs6W b0W xXW xY k0 k2 k3 k4 j0 j1 j2 j3 j4
        have hz1 := HP.out.2.2.2.2.2.2.1
        have hf1 := HP.out.2.2.2.2.2.2.2.1
        have hf2 := HP.out.2.2.2.2.2.2.2.2.1
        have hz2 := HP.out.2.2.2.2.2.2.2.2.2
        have HZ : Hid _ := And.intro hz1 (And.intro hf1 (And.intro hf2 hz2))
        clear hz1 hf1 hf2 hz2
        go_wp2_with fail
        refine Calls.mono (size_p _ S _ HW.out.1 HP.out.2.2.1 HP.out.2.2.2.2.1) ?_
        rintro e w7 ⟨rfl, b7⟩
        rw [HZ.out.1]
        have x7 := (b7.block X5 (lt_of HW.out.2.2.2.1)).trans HW.out.2.2.2.1
        clear k1
        obtain ⟨⟨k0, k1, k2, k3, k4⟩, _⟩ := cells5 x7
        have H7 : Hid _ := b7
        clear b7 x7 k0 k2 k3 k4
        go_wp2_with fail
        refine Calls.mono (has_p _ S a _ (HW.out.1.below H7.out) HP.out.2.2.1 HP.out.2.2.2.2.1) ?_
        rintro e w8 ⟨rfl, b8'⟩
        rw [HZ.out.2.1]
        have b8 := H7.out.trans (b8'.mono H7.out.size)
        have x8 := (b8.block X6 (lt_of HW.out.2.2.2.2)).trans HW.out.2.2.2.2
        clear k1
        obtain ⟨⟨k0, k1, k2, k3, k4⟩, _⟩ := cells5 x8
        have H8 : Hid _ := b8
        clear b8 b8' x8 k0 k2 k3 k4
        go_wp2_with fail
        refine Calls.mono (has_p _ T b _ (HW.out.2.1.below H8.out) HP.out.2.2.2.1 HP.out.2.2.2.2.2.1) ?_
        rintro e w9 ⟨rfl, b9'⟩
        rw [HZ.out.2.2.1]
        have b9 := H8.out.trans (b9'.mono H8.out.size)
        have x9 := (b9.block X6 (lt_of HW.out.2.2.2.2)).trans HW.out.2.2.2.2
        clear k1
        obtain ⟨⟨k0, k1, k2, k3, k4⟩, _⟩ := cells5 x9
        have H9 : Hid _ := b9
        clear b9 b9' x9 k0 k2 k3 k4
        go_wp2_with fail
        refine Calls.mono (size_p _ T _ (HW.out.2.1.below H9.out) HP.out.2.2.2.1 HP.out.2.2.2.2.2.1) ?_
        rintro e wz ⟨rfl, bz'⟩
        rw [HZ.out.2.2.2]
        have HF : Hid (Below w.heap.size w wz) := HW.out.2.2.1.trans ((H9.out.trans (bz'.mono H9.out.size)).mono HW.out.2.2.1.size)
        clear bz' k1
        go_wp2_with fail
        go_ret
        exact ⟨rfl, HF.out⟩
      · have h1' : sgL.contains c = false := by simpa using h1
        rw [if_neg h1] at hE
        rw [h1']
        clear h1 h1'
        by_cases h2 : (escS c).2 = true
        · rw [if_pos h2] at hE
          simp only [decide_eq_true_eq] at hE
          rw [h2]
          have he := esc_ok c
          obtain ⟨L, hL⟩ : ∃ L, (escS c).1 = L := ⟨_, rfl⟩
          rw [hL] at hE he2 he ⊢
          clear hL h2
          subst hE
          have HB : Hid _ := And.intro hs2 (And.intro b2 (And.intro hln he2))
          clear x2 hs2 b2 hcn hln he2 he
          go_wp2_with fail
          refine Calls.mono (same_p _ _ s s _ HB.out.1 HB.out.2.2.2 (by have := HB.out.2.2.1; omega) (by have := HB.out.2.2.1; omega)) ?_
          rintro e wT ⟨rfl, hb4⟩
          rw [decide_eq_true (rfl : s = s)]
          have HT : Hid (Below w.heap.size w wT) := HB.out.2.1.trans (hb4.mono HB.out.2.1.size)
          clear hb4 HB k0 k1 k2 k3 k4
          go_upto_region 22 with fail
          by_cases d1 : a < 97
          · go_wp2_with fail
            go_ret
            exact ⟨rfl, HT.out⟩
          by_cases d2 : 122 < a
          · go_wp2_with fail
            go_ret
            exact ⟨rfl, HT.out⟩
          by_cases d3 : b < a
          · go_wp2_with fail
            go_ret
            exact ⟨rfl, HT.out⟩
          by_cases d4 : 122 < b
          · go_wp2_with fail
            go_ret
            exact ⟨rfl, HT.out⟩
          have hP := okP_p a b (by omega) (by omega) (by omega)
          unfold okP at hP
          obtain ⟨Y1, hY1⟩ : ∃ Y, parS [91, 97, 45, 122, 45, 91, a, 45, b, 93, 93] = Y := ⟨_, rfl⟩
          obtain ⟨Y2, hY2⟩ : ∃ Y, parS [91, 94, a, 45, b, 93] = Y := ⟨_, rfl⟩
          rw [hY1, hY2] at hP
          rcases Y1 with ⟨⟨kx, S, mx1, mx2, kx'⟩, px⟩ | ⟨px, ex⟩
          case bad => simp at hP
          rcases Y2 with ⟨⟨ky, T, my1, my2, ky'⟩, py⟩ | ⟨py, ey⟩
          case bad => simp at hP
          simp only [Bool.and_eq_true, decide_eq_true_eq, Bool.not_eq_true'] at hP
          obtain ⟨⟨⟨⟨⟨⟨⟨r1, r2⟩, l1⟩, l2⟩, z1⟩, f1⟩, f2⟩, z2⟩ := hP
          have cS := rt0 r1
          have cT := rt0 r2
          have l1' : S.length ≤ 1000000 := by omega
          have l2' : T.length ≤ 1000000 := by omega
          have HP : Hid _ := And.intro hY1 (And.intro hY2 (And.intro cS (And.intro cT (And.intro l1' (And.intro l2' (And.intro z1 (And.intro f1 (And.intro f2 z2))))))))
          clear hY1 hY2 r1 r2 l1 l2 z1 f1 f2 z2 cS cT l1' l2'
          have ca1 := conv_one a wT
          have cb1 := conv_one b (wT.alloc (.cells #[.int .u8 a] 5))
          rw [sza] at cb1
          have za := sb_one_size a
          have zb := sb_one_size b
          have va : a % 256 = a := by omega
          have vb : b % 256 = b := by omega
          go_wp2_with fail
          have hbl : bl (⟨#[91, 97, 45, 122, 45, 91]⟩ ++ sb [a] ++ ⟨#[45]⟩ ++ sb [b] ++ ⟨#[93, 93]⟩) = [91, 97, 45, 122, 45, 91, a, 45, b, 93, 93] := by
            rw [bl_app, bl_app, bl_app, bl_app, bl_one (by omega) (by omega), bl_one (by omega) (by omega)]
            rfl
          refine Calls.mono (parse_p _ _) ?_
          intro e w5 hq
          rw [hbl, HP.out.1] at hq
          clear ca1 cb1 hbl
          obtain ⟨q0x, s0x, s1x, s2x, q2x, q3x, t0x, t1x, t2x, rfl, hn, hb5⟩ := hq
          obtain ⟨rfl, hs5⟩ := nd_open hn
          clear hn
          have b5 : Below w.heap.size w w5 := by
            have u1 := (HT.out.alloc HT.out.size (.cells #[.int .u8 a] 5))
            have u2 := u1.alloc u1.size (.cells #[.int .u8 b] 5)
            exact u2.trans (hb5.mono u2.size)
          have H5 : Hid _ := And.intro hs5 b5
          clear hs5 b5 hb5
          have ca1 := conv_one a (w5.alloc (.cells #[.int .i64 q0x, .slice s0x s1x s2x, .int .i64 q2x, .int .i64 q3x, .slice t0x t1x t2x] 27))
          have cb1 := conv_one b ((w5.alloc (.cells #[.int .i64 q0x, .slice s0x s1x s2x, .int .i64 q2x, .int .i64 q3x, .slice t0x t1x t2x] 27)).alloc (.cells #[.int .u8 a] 5))
          rw [sza] at ca1
          rw [sza, sza] at cb1
          go_wp2_with fail
          have hbl : bl (⟨#[91, 94]⟩ ++ sb [a] ++ ⟨#[45]⟩ ++ sb [b] ++ ⟨#[93]⟩) = [91, 94, a, 45, b, 93] := by
            rw [bl_app, bl_app, bl_app, bl_app, bl_one (by omega) (by omega), bl_one (by omega) (by omega)]
            rfl
          refine Calls.mono (parse_p _ _) ?_
          intro e w6 hq
          rw [hbl, HP.out.2.1] at hq
          clear ca1 cb1 hbl
          obtain ⟨q0y, s0y, s1y, s2y, q2y, q3y, t0y, t1y, t2y, rfl, hn, hb6⟩ := hq
          obtain ⟨rfl, hs6⟩ := nd_open hn
          clear hn
          have H6 : Hid _ := And.intro hs6 hb6
          clear hs6 hb6
          go_upto_region 26 with fail
          obtain ⟨hs5, b5⟩ := H5.out
          obtain ⟨hs6, hb6⟩ := H6.out
          clear H5 H6
          obtain ⟨W, hW⟩ : ∃ W, w6.alloc (.cells #[.int .i64 q0y, .slice s0y s1y s2y, .int .i64 q2y, .int .i64 q3y, .slice t0y t1y t2y] 27) = W := ⟨_, rfl⟩
          have bW : Below w6.heap.size w6 W := by rw [← hW]; exact (Below.refl _ _).alloc (Nat.le_refl _) _
          have xY : W.heap[w6.heap.size]? = some (.cells #[.int .i64 q0y, .slice s0y s1y s2y, .int .i64 q2y, .int .i64 q3y, .slice t0y t1y t2y] 27) := by rw [← hW]; exact nw_heap w6 (.cells #[.int .i64 q0y, .slice s0y s1y s2y, .int .i64 q2y, .int .i64 q3y, .slice t0y t1y t2y] 27)
          have xX := nw_heap w5 (.cells #[.int .i64 q0x, .slice s0x s1x s2x, .int .i64 q2x, .int .i64 q3x, .slice t0x t1x t2x] 27)
          have bX : Below w5.heap.size w5 (w5.alloc (.cells #[.int .i64 q0x, .slice s0x s1x s2x, .int .i64 q2x, .int .i64 q3x, .slice t0x t1x t2x] 27)) := (Below.refl _ _).alloc (Nat.le_refl _) _
          have zX := sza w5 (.cells #[.int .i64 q0x, .slice s0x s1x s2x, .int .i64 q2x, .int .i64 q3x, .slice t0x t1x t2x] 27)
          have bX6 : Below (w5.heap.size + 1) (w5.alloc (.cells #[.int .i64 q0x, .slice s0x s1x s2x, .int .i64 q2x, .int .i64 q3x, .slice t0x t1x t2x] 27)) w6 := by
            have u1 := ((Below.refl (w5.heap.size + 1) (w5.alloc (.cells #[.int .i64 q0x, .slice s0x s1x s2x, .int .i64 q2x, .int .i64 q3x, .slice t0x t1x t2x] 27))).alloc (by rw [zX]; exact Nat.le_refl _) (.cells #[.int .u8 a] 5))
            have u2 := u1.alloc (by rw [sza, zX]; omega) (.cells #[.int .u8 b] 5)
            exact u2.trans (hb6.mono (by rw [sza, sza, zX]; omega))
          have bXW := bX6.trans (bW.mono (by have := bX6.size; omega))
          have xXW := (bXW.block w5.heap.size (by omega)).trans xX
          have b5W := bX.trans (bXW.mono (by omega))
          have hs5W := hs5.below b5W
          have hs6W := hs6.below bW
          have b0W := b5.trans (b5W.mono b5.size)
          rw [hW]
          obtain ⟨X5, hX5⟩ : ∃ X, w5.heap.size = X := ⟨_, rfl⟩
          obtain ⟨X6, hX6⟩ : ∃ X, w6.heap.size = X := ⟨_, rfl⟩
          rw [hX6] at xY ⊢
          rw [hX5] at xXW ⊢
          clear hs5 b5 hs6 hb6 bW xX bX zX bX6 bXW b5W hW hX5 hX6
          obtain ⟨⟨k0, k1, k2, k3, k4⟩, _⟩ := cells5 xXW
          obtain ⟨⟨j0, j1, j2, j3, j4⟩, _⟩ := cells5 xY
          have HW : Hid _ := And.intro hs5W (And.intro hs6W (And.intro b0W (And.intro xXW xY)))
          clear hs5W hs6W b0W xXW xY k0 k2 k3 k4 j0 j1 j2 j3 j4
          have hz1 := HP.out.2.2.2.2.2.2.1
          have hf1 := HP.out.2.2.2.2.2.2.2.1
          have hf2 := HP.out.2.2.2.2.2.2.2.2.1
          have hz2 := HP.out.2.2.2.2.2.2.2.2.2
          have HZ : Hid _ := And.intro hz1 (And.intro hf1 (And.intro hf2 hz2))
          clear hz1 hf1 hf2 hz2
          go_wp2_with fail
          refine Calls.mono (size_p _ S _ HW.out.1 HP.out.2.2.1 HP.out.2.2.2.2.1) ?_
          rintro e w7 ⟨rfl, b7⟩
          rw [HZ.out.1]
          have x7 := (b7.block X5 (lt_of HW.out.2.2.2.1)).trans HW.out.2.2.2.1
          clear k1
          obtain ⟨⟨k0, k1, k2, k3, k4⟩, _⟩ := cells5 x7
          have H7 : Hid _ := b7
          clear b7 x7 k0 k2 k3 k4
          go_wp2_with fail
          refine Calls.mono (has_p _ S a _ (HW.out.1.below H7.out) HP.out.2.2.1 HP.out.2.2.2.2.1) ?_
          rintro e w8 ⟨rfl, b8'⟩
          rw [HZ.out.2.1]
          have b8 := H7.out.trans (b8'.mono H7.out.size)
          have x8 := (b8.block X6 (lt_of HW.out.2.2.2.2)).trans HW.out.2.2.2.2
          clear k1
          obtain ⟨⟨k0, k1, k2, k3, k4⟩, _⟩ := cells5 x8
          have H8 : Hid _ := b8
          clear b8 b8' x8 k0 k2 k3 k4
          go_wp2_with fail
          refine Calls.mono (has_p _ T b _ (HW.out.2.1.below H8.out) HP.out.2.2.2.1 HP.out.2.2.2.2.2.1) ?_
          rintro e w9 ⟨rfl, b9'⟩
          rw [HZ.out.2.2.1]
          have b9 := H8.out.trans (b9'.mono H8.out.size)
          have x9 := (b9.block X6 (lt_of HW.out.2.2.2.2)).trans HW.out.2.2.2.2
          clear k1
          obtain ⟨⟨k0, k1, k2, k3, k4⟩, _⟩ := cells5 x9
          have H9 : Hid _ := b9
          clear b9 b9' x9 k0 k2 k3 k4
          go_wp2_with fail
          refine Calls.mono (size_p _ T _ (HW.out.2.1.below H9.out) HP.out.2.2.2.1 HP.out.2.2.2.2.2.1) ?_
          rintro e wz ⟨rfl, bz'⟩
          rw [HZ.out.2.2.2]
          have HF : Hid (Below w.heap.size w wz) := HW.out.2.2.1.trans ((H9.out.trans (bz'.mono H9.out.size)).mono HW.out.2.2.1.size)
          clear bz' k1
          go_wp2_with fail
          go_ret
          exact ⟨rfl, HF.out⟩
        · have h2' : (escS c).2 = false := by simpa using h2
          rw [if_neg h2] at hE
          rw [h2']
          simp only [Bool.and_eq_true, decide_eq_true_eq] at hE
          obtain ⟨hnr, hz⟩ := hE
          have HB : Hid _ := And.intro hs2 (And.intro b2 (And.intro hcn (And.intro hln hz)))
          clear x2 hs2 b2 hcn hln he2 h2 h2' hz
          unfold nrt at hnr
          simp only [Bool.or_eq_true, decide_eq_true_eq] at hnr
          obtain ⟨n1, n2, n3, hnn⟩ : ∃ n1 n2 n3 : Bool, decide (c = 110) = n1 ∧ decide (c = 114) = n2 ∧ decide (c = 116) = n3 := ⟨_, _, _, rfl, rfl, rfl⟩
          clear hnn n1 n2 n3
          rcases hnr with (rfl | rfl) | rfl
          all_goals
            go_wp2_with fail
            refine Calls.mono (size_p _ s _ HB.out.1 HB.out.2.2.1 (by have := HB.out.2.2.2.1; omega)) ?_
            rintro e wT ⟨rfl, hb4⟩
            rw [HB.out.2.2.2.2]
            have HT : Hid (Below w.heap.size w wT) := HB.out.2.1.trans (hb4.mono HB.out.2.1.size)
            clear hb4 HB k0 k1 k2 k3 k4
            go_upto_region 22 with fail
            by_cases d1 : a < 97
            · go_wp2_with fail
              go_ret
              exact ⟨rfl, HT.out⟩
            by_cases d2 : 122 < a
            · go_wp2_with fail
              go_ret
              exact ⟨rfl, HT.out⟩
            by_cases d3 : b < a
            · go_wp2_with fail
              go_ret
              exact ⟨rfl, HT.out⟩
            by_cases d4 : 122 < b
            · go_wp2_with fail
              go_ret
              exact ⟨rfl, HT.out⟩
            have hP := okP_p a b (by omega) (by omega) (by omega)
            unfold okP at hP
            obtain ⟨Y1, hY1⟩ : ∃ Y, parS [91, 97, 45, 122, 45, 91, a, 45, b, 93, 93] = Y := ⟨_, rfl⟩
            obtain ⟨Y2, hY2⟩ : ∃ Y, parS [91, 94, a, 45, b, 93] = Y := ⟨_, rfl⟩
            rw [hY1, hY2] at hP
            rcases Y1 with ⟨⟨kx, S, mx1, mx2, kx'⟩, px⟩ | ⟨px, ex⟩
            case bad => simp at hP
            rcases Y2 with ⟨⟨ky, T, my1, my2, ky'⟩, py⟩ | ⟨py, ey⟩
            case bad => simp at hP
            simp only [Bool.and_eq_true, decide_eq_true_eq, Bool.not_eq_true'] at hP
            obtain ⟨⟨⟨⟨⟨⟨⟨r1, r2⟩, l1⟩, l2⟩, z1⟩, f1⟩, f2⟩, z2⟩ := hP
            have cS := rt0 r1
            have cT := rt0 r2
            have l1' : S.length ≤ 1000000 := by omega
            have l2' : T.length ≤ 1000000 := by omega
            have HP : Hid _ := And.intro hY1 (And.intro hY2 (And.intro cS (And.intro cT (And.intro l1' (And.intro l2' (And.intro z1 (And.intro f1 (And.intro f2 z2))))))))
            clear hY1 hY2 r1 r2 l1 l2 z1 f1 f2 z2 cS cT l1' l2'
            have ca1 := conv_one a wT
            have cb1 := conv_one b (wT.alloc (.cells #[.int .u8 a] 5))
            rw [sza] at cb1
            have za := sb_one_size a
            have zb := sb_one_size b
            have va : a % 256 = a := by omega
            have vb : b % 256 = b := by omega
            go_wp2_with fail
            have hbl : bl (⟨#[91, 97, 45, 122, 45, 91]⟩ ++ sb [a] ++ ⟨#[45]⟩ ++ sb [b] ++ ⟨#[93, 93]⟩) = [91, 97, 45, 122, 45, 91, a, 45, b, 93, 93] := by
              rw [bl_app, bl_app, bl_app, bl_app, bl_one (by omega) (by omega), bl_one (by omega) (by omega)]
              rfl
            refine Calls.mono (parse_p _ _) ?_
            intro e w5 hq
            rw [hbl, HP.out.1] at hq
            clear ca1 cb1 hbl
            obtain ⟨q0x, s0x, s1x, s2x, q2x, q3x, t0x, t1x, t2x, rfl, hn, hb5⟩ := hq
            obtain ⟨rfl, hs5⟩ := nd_open hn
            clear hn
            have b5 : Below w.heap.size w w5 := by
              have u1 := (HT.out.alloc HT.out.size (.cells #[.int .u8 a] 5))
              have u2 := u1.alloc u1.size (.cells #[.int .u8 b] 5)
              exact u2.trans (hb5.mono u2.size)
            have H5 : Hid _ := And.intro hs5 b5
            clear hs5 b5 hb5
            have ca1 := conv_one a (w5.alloc (.cells #[.int .i64 q0x, .slice s0x s1x s2x, .int .i64 q2x, .int .i64 q3x, .slice t0x t1x t2x] 27))
            have cb1 := conv_one b ((w5.alloc (.cells #[.int .i64 q0x, .slice s0x s1x s2x, .int .i64 q2x, .int .i64 q3x, .slice t0x t1x t2x] 27)).alloc (.cells #[.int .u8 a] 5))
            rw [sza] at ca1
            rw [sza, sza] at cb1
            go_wp2_with fail
            have hbl : bl (⟨#[91, 94]⟩ ++ sb [a] ++ ⟨#[45]⟩ ++ sb [b] ++ ⟨#[93]⟩) = [91, 94, a, 45, b, 93] := by
              rw [bl_app, bl_app, bl_app, bl_app, bl_one (by omega) (by omega), bl_one (by omega) (by omega)]
              rfl
            refine Calls.mono (parse_p _ _) ?_
            intro e w6 hq
            rw [hbl, HP.out.2.1] at hq
            clear ca1 cb1 hbl
            obtain ⟨q0y, s0y, s1y, s2y, q2y, q3y, t0y, t1y, t2y, rfl, hn, hb6⟩ := hq
            obtain ⟨rfl, hs6⟩ := nd_open hn
            clear hn
            have H6 : Hid _ := And.intro hs6 hb6
            clear hs6 hb6
            go_upto_region 26 with fail
            obtain ⟨hs5, b5⟩ := H5.out
            obtain ⟨hs6, hb6⟩ := H6.out
            clear H5 H6
            obtain ⟨W, hW⟩ : ∃ W, w6.alloc (.cells #[.int .i64 q0y, .slice s0y s1y s2y, .int .i64 q2y, .int .i64 q3y, .slice t0y t1y t2y] 27) = W := ⟨_, rfl⟩
            have bW : Below w6.heap.size w6 W := by rw [← hW]; exact (Below.refl _ _).alloc (Nat.le_refl _) _
            have xY : W.heap[w6.heap.size]? = some (.cells #[.int .i64 q0y, .slice s0y s1y s2y, .int .i64 q2y, .int .i64 q3y, .slice t0y t1y t2y] 27) := by rw [← hW]; exact nw_heap w6 (.cells #[.int .i64 q0y, .slice s0y s1y s2y, .int .i64 q2y, .int .i64 q3y, .slice t0y t1y t2y] 27)
            have xX := nw_heap w5 (.cells #[.int .i64 q0x, .slice s0x s1x s2x, .int .i64 q2x, .int .i64 q3x, .slice t0x t1x t2x] 27)
            have bX : Below w5.heap.size w5 (w5.alloc (.cells #[.int .i64 q0x, .slice s0x s1x s2x, .int .i64 q2x, .int .i64 q3x, .slice t0x t1x t2x] 27)) := (Below.refl _ _).alloc (Nat.le_refl _) _
            have zX := sza w5 (.cells #[.int .i64 q0x, .slice s0x s1x s2x, .int .i64 q2x, .int .i64 q3x, .slice t0x t1x t2x] 27)
            have bX6 : Below (w5.heap.size + 1) (w5.alloc (.cells #[.int .i64 q0x, .slice s0x s1x s2x, .int .i64 q2x, .int .i64 q3x, .slice t0x t1x t2x] 27)) w6 := by
              have u1 := ((Below.refl (w5.heap.size + 1) (w5.alloc (.cells #[.int .i64 q0x, .slice s0x s1x s2x, .int .i64 q2x, .int .i64 q3x, .slice t0x t1x t2x] 27))).alloc (by rw [zX]; exact Nat.le_refl _) (.cells #[.int .u8 a] 5))
              have u2 := u1.alloc (by rw [sza, zX]; omega) (.cells #[.int .u8 b] 5)
              exact u2.trans (hb6.mono (by rw [sza, sza, zX]; omega))
            have bXW := bX6.trans (bW.mono (by have := bX6.size; omega))
            have xXW := (bXW.block w5.heap.size (by omega)).trans xX
            have b5W := bX.trans (bXW.mono (by omega))
            have hs5W := hs5.below b5W
            have hs6W := hs6.below bW
            have b0W := b5.trans (b5W.mono b5.size)
            rw [hW]
            obtain ⟨X5, hX5⟩ : ∃ X, w5.heap.size = X := ⟨_, rfl⟩
            obtain ⟨X6, hX6⟩ : ∃ X, w6.heap.size = X := ⟨_, rfl⟩
            rw [hX6] at xY ⊢
            rw [hX5] at xXW ⊢
            clear hs5 b5 hs6 hb6 bW xX bX zX bX6 bXW b5W hW hX5 hX6
            obtain ⟨⟨k0, k1, k2, k3, k4⟩, _⟩ := cells5 xXW
            obtain ⟨⟨j0, j1, j2, j3, j4⟩, _⟩ := cells5 xY
            have HW : Hid _ := And.intro hs5W (And.intro hs6W (And.intro b0W (And.intro xXW xY)))
            clear hs5W hs6W b0W xXW xY k0 k2 k3 k4 j0 j1 j2 j3 j4
            have hz1 := HP.out.2.2.2.2.2.2.1
            have hf1 := HP.out.2.2.2.2.2.2.2.1
            have hf2 := HP.out.2.2.2.2.2.2.2.2.1
            have hz2 := HP.out.2.2.2.2.2.2.2.2.2
            have HZ : Hid _ := And.intro hz1 (And.intro hf1 (And.intro hf2 hz2))
            clear hz1 hf1 hf2 hz2
            go_wp2_with fail
            refine Calls.mono (size_p _ S _ HW.out.1 HP.out.2.2.1 HP.out.2.2.2.2.1) ?_
            rintro e w7 ⟨rfl, b7⟩
            rw [HZ.out.1]
            have x7 := (b7.block X5 (lt_of HW.out.2.2.2.1)).trans HW.out.2.2.2.1
            clear k1
            obtain ⟨⟨k0, k1, k2, k3, k4⟩, _⟩ := cells5 x7
            have H7 : Hid _ := b7
            clear b7 x7 k0 k2 k3 k4
            go_wp2_with fail
            refine Calls.mono (has_p _ S a _ (HW.out.1.below H7.out) HP.out.2.2.1 HP.out.2.2.2.2.1) ?_
            rintro e w8 ⟨rfl, b8'⟩
            rw [HZ.out.2.1]
            have b8 := H7.out.trans (b8'.mono H7.out.size)
            have x8 := (b8.block X6 (lt_of HW.out.2.2.2.2)).trans HW.out.2.2.2.2
            clear k1
            obtain ⟨⟨k0, k1, k2, k3, k4⟩, _⟩ := cells5 x8
            have H8 : Hid _ := b8
            clear b8 b8' x8 k0 k2 k3 k4
            go_wp2_with fail
            refine Calls.mono (has_p _ T b _ (HW.out.2.1.below H8.out) HP.out.2.2.2.1 HP.out.2.2.2.2.2.1) ?_
            rintro e w9 ⟨rfl, b9'⟩
            rw [HZ.out.2.2.1]
            have b9 := H8.out.trans (b9'.mono H8.out.size)
            have x9 := (b9.block X6 (lt_of HW.out.2.2.2.2)).trans HW.out.2.2.2.2
            clear k1
            obtain ⟨⟨k0, k1, k2, k3, k4⟩, _⟩ := cells5 x9
            have H9 : Hid _ := b9
            clear b9 b9' x9 k0 k2 k3 k4
            go_wp2_with fail
            refine Calls.mono (size_p _ T _ (HW.out.2.1.below H9.out) HP.out.2.2.2.1 HP.out.2.2.2.2.2.1) ?_
            rintro e wz ⟨rfl, bz'⟩
            rw [HZ.out.2.2.2]
            have HF : Hid (Below w.heap.size w wz) := HW.out.2.2.1.trans ((H9.out.trans (bz'.mono H9.out.size)).mono HW.out.2.2.1.size)
            clear bz' k1
            go_wp2_with fail
            go_ret
            exact ⟨rfl, HF.out⟩
end Go.Proofs.Ythlkbijpphdblaa
