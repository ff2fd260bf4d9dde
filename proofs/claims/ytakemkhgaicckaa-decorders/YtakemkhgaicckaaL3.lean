/- DecOrders: the walk. -/
import Derived.Test.YtakemkhgaicckaaL2
namespace Go.Proofs.Ytakemkhgaicckaa
open Go.RowKit
set_option linter.unusedVariables false

theorem parse_any (P : Prg) (s : ByteArray) (w : World) (hs : s.size ≤ 600) : Calls Try.prog 8 #[.string s] w fun e w' => ∃ b a n c z x, e = .returned (.tuple #[nmV b (.slice a n c) z, .int .i64 x]) ∧ Below w.heap.size w w' := by
  refine Calls.mono (parse_n P s w hs) ?_
  rintro e w' ⟨hb, ⟨n, a, c, _, _, rfl, _⟩ | ⟨x, a, c, _, _, rfl, _⟩⟩
  · exact ⟨_, _, _, _, _, _, rfl, hb⟩
  · exact ⟨_, _, _, _, _, _, rfl, hb⟩
theorem cmp_as (P : Prg) {w : World} {v v' : Value} {a b : Nm} (ha : NmR w v a) (hb : NmR w v' b) {k : Int} (h : cmpS a b = k) : Calls Try.prog 22 #[nmV a.1 v a.2.2, nmV b.1 v' b.2.2] w fun e w' => e = .returned (.int .i64 k) ∧ Below w.heap.size w w' := by
  rw [← h]
  exact P.cmp ha hb
theorem sm_len {a b : Nm} (ha : CN a) (hb : CN b) {N : Nat} (h1 : a.2.1.length ≤ N) (h2 : b.2.1.length ≤ N) : (smS a b).2.1.length ≤ 2 * N + 1 := by
  have h := (sm_ok ha hb).2.2.2
  have la := ha.1.len
  have lb := hb.1.len
  have hx : hiX a b ≤ N := by unfold hiX; omega
  have hs' : hiS a b ≤ N := by unfold hiS; omega
  omega
set_option maxRecDepth 100000 in
set_option maxHeartbeats 6400000 in
theorem orders_s (P : Prg) (s t u : ByteArray) (w : World) (hs : s.size ≤ maxLen) (ht : t.size ≤ maxLen) (hu : u.size ≤ maxLen) : Calls Try.prog 6 #[.string s, .string t, .string u] w fun e w' => e = .returned (.bool true) ∧ Below w.heap.size w w' := by
  unfold maxLen at hs ht hu
  have HP : Hid _ := P
  clear P
  by_cases hsb : 200 < (s.size : Int)
  · go_enter Try.func6, Try.ntmps6
    go_wp2_with (first | (go_at_call 7; refine Calls.mono (known_s HP.out _) ?_; rintro e w0 ⟨rfl, hb0⟩))
    go_ret
    exact ⟨rfl, hb0⟩
  by_cases htb : 200 < (t.size : Int)
  · go_enter Try.func6, Try.ntmps6
    go_wp2_with (first | (go_at_call 7; refine Calls.mono (known_s HP.out _) ?_; rintro e w0 ⟨rfl, hb0⟩))
    go_ret
    exact ⟨rfl, hb0⟩
  by_cases hub : 200 < (u.size : Int)
  · go_enter Try.func6, Try.ntmps6
    go_wp2_with (first | (go_at_call 7; refine Calls.mono (known_s HP.out _) ?_; rintro e w0 ⟨rfl, hb0⟩))
    go_ret
    exact ⟨rfl, hb0⟩
  go_enter Try.func6, Try.ntmps6
  go_wp2_with (first | (go_at_call 7; refine Calls.mono (known_s HP.out _) ?_; rintro e w0 ⟨rfl, hb0⟩))
  have HB0 : Hid _ := hb0
  clear hb0
  refine Calls.mono (parse_n HP.out s _ (by omega)) ?_
  rintro e w1 ⟨hb, hr⟩
  have hbb := HB0.out.trans (hb.mono HB0.out.size)
  rcases hr with ⟨nA, a1, c1, hp, hlnA, rfl, hn⟩ | ⟨x, a1, c1, hx, hp, rfl, hbt⟩
  case' inr =>
    have hxn : ¬ x = 0 := by omega
    have hxb : (x == 0) = false := by simpa using hxn
    have hxc : (x != 0) = true := by simpa using hxn
    clear hp hbt hx hb
    have HB1 : Hid _ := hbb
    clear hbb
    go_wp2_with fail
    refine Calls.mono (parse_any HP.out t _ (by omega)) ?_
    rintro e wz ⟨zb, za, zn, zc, zz, zx, rfl, hbz⟩
    have hbb := (HB1.out.alloc HB1.out.size _).trans (hbz.mono (le_alloc HB1.out.size _))
    have HB1 : Hid _ := hbb
    clear hbb hbz
    go_wp2_with fail
    refine Calls.mono (parse_any HP.out u _ (by omega)) ?_
    rintro e wz ⟨zb, za, zn, zc, zz, zx, rfl, hbz⟩
    have hbb := (HB1.out.alloc HB1.out.size _).trans (hbz.mono (le_alloc HB1.out.size _))
    have HB1 : Hid _ := hbb
    clear hbb hbz
    go_wp2_with fail
    go_ret
    exact ⟨rfl, HB1.out.alloc HB1.out.size _⟩
  obtain ⟨hx1, hba1⟩ := BxN.mk' (t := 25) hn
  have hbU := hb.trans (hba1.mono hb.size)
  have HB0 : Hid _ := hbb.trans (hba1.mono hbb.size)
  have H : Hid _ := And.intro hx1 (trivial)
  clear hb hbb hba1 hbU hp hn hx1
  go_wp2_with fail
  generalize (w1.alloc (.cells #[.bool nA.1, .slice a1 nA.2.1.length c1, .int .i64 nA.2.2] 25)) = U1 at *
  refine Calls.mono (parse_n HP.out t _ (by omega)) ?_
  rintro e w2 ⟨hb, hr⟩
  have hbb := HB0.out.trans (hb.mono HB0.out.size)
  rcases hr with ⟨nB, a2, c2, hp, hlnB, rfl, hn⟩ | ⟨x, a2, c2, hx, hp, rfl, hbt⟩
  case' inr =>
    have hxn : ¬ x = 0 := by omega
    have hxb : (x == 0) = false := by simpa using hxn
    have hxc : (x != 0) = true := by simpa using hxn
    clear hp hbt hx hb
    have HB1 : Hid _ := hbb
    clear hbb
    go_wp2_with fail
    refine Calls.mono (parse_any HP.out u _ (by omega)) ?_
    rintro e wz ⟨zb, za, zn, zc, zz, zx, rfl, hbz⟩
    have hbb := (HB1.out.alloc HB1.out.size _).trans (hbz.mono (le_alloc HB1.out.size _))
    have HB1 : Hid _ := hbb
    clear hbb hbz
    go_wp2_with fail
    go_ret
    exact ⟨rfl, HB1.out.alloc HB1.out.size _⟩
  obtain ⟨hx1, hba1⟩ := BxN.mk' (t := 25) hn
  have hbU := hb.trans (hba1.mono hb.size)
  have g0 := H.out.1.below hbU
  have HB0 : Hid _ := hbb.trans (hba1.mono hbb.size)
  have H : Hid _ := And.intro g0 (And.intro hx1 (trivial))
  clear hb hbb hba1 hbU hp hn g0 hx1
  go_wp2_with fail
  generalize (w2.alloc (.cells #[.bool nB.1, .slice a2 nB.2.1.length c2, .int .i64 nB.2.2] 25)) = U2 at *
  refine Calls.mono (parse_n HP.out u _ (by omega)) ?_
  rintro e w3 ⟨hb, hr⟩
  have hbb := HB0.out.trans (hb.mono HB0.out.size)
  rcases hr with ⟨nC, a3, c3, hp, hlnC, rfl, hn⟩ | ⟨x, a3, c3, hx, hp, rfl, hbt⟩
  case' inr =>
    have hxn : ¬ x = 0 := by omega
    have hxb : (x == 0) = false := by simpa using hxn
    have hxc : (x != 0) = true := by simpa using hxn
    clear hp hbt hx hb
    have HB1 : Hid _ := hbb
    clear hbb
    go_wp2_with fail
    go_ret
    exact ⟨rfl, HB1.out.alloc HB1.out.size _⟩
  obtain ⟨hx1, hba1⟩ := BxN.mk' (t := 25) hn
  have hbU := hb.trans (hba1.mono hb.size)
  have g0 := H.out.1.below hbU
  have g1 := H.out.2.1.below hbU
  have HB0 : Hid _ := hbb.trans (hba1.mono hbb.size)
  have H : Hid _ := And.intro g0 (And.intro g1 (And.intro hx1 (trivial)))
  clear hb hbb hba1 hbU hp hn g0 g1 hx1
  obtain ⟨k10, k11, k12⟩ := bl3 H.out.1.bx
  obtain ⟨k20, k21, k22⟩ := bl3 H.out.2.2.1.bx
  go_wp2_with fail
  generalize (w3.alloc (.cells #[.bool nC.1, .slice a3 nC.2.1.length c3, .int .i64 nC.2.2] 25)) = U3 at *
  refine Calls.mono (add_n HP.out H.out.1.nm H.out.2.2.1.nm (by omega) (by omega)) ?_
  rintro e w4 ⟨a4, c4, rfl, hn, hb⟩
  have hlnP := sm_len H.out.1.nm.cn H.out.2.2.1.nm.cn (N := 600) (by omega) (by omega)
  obtain ⟨nP, hnP⟩ : ∃ n, smS nA nC = n := ⟨_, rfl⟩
  rw [hnP] at hn hlnP ⊢
  obtain ⟨hx1, hba1⟩ := BxN.mk' (t := 25) hn
  have hbU := hb.trans (hba1.mono hb.size)
  have HB0 : Hid _ := HB0.out.trans (hbU.mono HB0.out.size)
  have g0 := H.out.1.below hbU
  have g1 := H.out.2.1.below hbU
  have g2 := H.out.2.2.1.below hbU
  have H : Hid _ := And.intro g0 (And.intro g1 (And.intro g2 (And.intro hx1 (trivial))))
  clear hb hba1 hbU hn k10 k11 k12 k20 k21 k22 g0 g1 g2 hx1
  obtain ⟨k10, k11, k12⟩ := bl3 H.out.2.1.bx
  obtain ⟨k20, k21, k22⟩ := bl3 H.out.2.2.1.bx
  go_wp2_with fail
  generalize (w4.alloc (.cells #[.bool nP.1, .slice a4 nP.2.1.length c4, .int .i64 nP.2.2] 25)) = U4 at *
  refine Calls.mono (add_n HP.out H.out.2.1.nm H.out.2.2.1.nm (by omega) (by omega)) ?_
  rintro e w5 ⟨a5, c5, rfl, hn, hb⟩
  have hlnQ := sm_len H.out.2.1.nm.cn H.out.2.2.1.nm.cn (N := 600) (by omega) (by omega)
  obtain ⟨nQ, hnQ⟩ : ∃ n, smS nB nC = n := ⟨_, rfl⟩
  rw [hnQ] at hn hlnQ ⊢
  obtain ⟨hx1, hba1⟩ := BxN.mk' (t := 25) hn
  have hbU := hb.trans (hba1.mono hb.size)
  have HB0 : Hid _ := HB0.out.trans (hbU.mono HB0.out.size)
  have g0 := H.out.1.below hbU
  have g1 := H.out.2.1.below hbU
  have g2 := H.out.2.2.1.below hbU
  have g3 := H.out.2.2.2.1.below hbU
  have H : Hid _ := And.intro g0 (And.intro g1 (And.intro g2 (And.intro g3 (And.intro hx1 (trivial)))))
  clear hb hba1 hbU hn k10 k11 k12 k20 k21 k22 g0 g1 g2 g3 hx1
  go_upto_region 12 with fail
  generalize (w5.alloc (.cells #[.bool nQ.1, .slice a5 nQ.2.1.length c5, .int .i64 nQ.2.2] 25)) = U5 at *
  have HB : Hid (Below U5.heap.size U5 U5.drew) := Below.drewN' 1
  have hkp : ∀ W, Below U5.heap.size U5 W → (W.cell? ⟨w1.heap.size, 0, none⟩ = some (.bool nA.1) ∧ W.cell? ⟨w1.heap.size, 1, none⟩ = some (.slice a1 nA.2.1.length c1) ∧ W.cell? ⟨w1.heap.size, 2, none⟩ = some (.int .i64 nA.2.2)) ∧ (W.cell? ⟨w2.heap.size, 0, none⟩ = some (.bool nB.1) ∧ W.cell? ⟨w2.heap.size, 1, none⟩ = some (.slice a2 nB.2.1.length c2) ∧ W.cell? ⟨w2.heap.size, 2, none⟩ = some (.int .i64 nB.2.2)) ∧ (W.cell? ⟨w3.heap.size, 0, none⟩ = some (.bool nC.1) ∧ W.cell? ⟨w3.heap.size, 1, none⟩ = some (.slice a3 nC.2.1.length c3) ∧ W.cell? ⟨w3.heap.size, 2, none⟩ = some (.int .i64 nC.2.2)) ∧ (W.cell? ⟨w4.heap.size, 0, none⟩ = some (.bool nP.1) ∧ W.cell? ⟨w4.heap.size, 1, none⟩ = some (.slice a4 nP.2.1.length c4) ∧ W.cell? ⟨w4.heap.size, 2, none⟩ = some (.int .i64 nP.2.2)) ∧ (W.cell? ⟨w5.heap.size, 0, none⟩ = some (.bool nQ.1) ∧ W.cell? ⟨w5.heap.size, 1, none⟩ = some (.slice a5 nQ.2.1.length c5) ∧ W.cell? ⟨w5.heap.size, 2, none⟩ = some (.int .i64 nQ.2.2)) := fun W hb => ⟨boxK H.out.1.bx W hb, boxK H.out.2.1.bx W hb, boxK H.out.2.2.1.bx W hb, boxK H.out.2.2.2.1.bx W hb, boxK H.out.2.2.2.2.1.bx W hb⟩
  have HKP : Hid _ := hkp
  obtain ⟨⟨g00, g01, g02⟩, ⟨g10, g11, g12⟩, ⟨g20, g21, g22⟩, ⟨g30, g31, g32⟩, ⟨g40, g41, g42⟩⟩ := hkp U5 (Below.refl _ _)
  clear hkp
  have hcA := H.out.1.nm.cn
  have hcB := H.out.2.1.nm.cn
  have hcC := H.out.2.2.1.nm.cn
  obtain ⟨k, hk⟩ : ∃ k, cmpS nA nB = k := ⟨_, rfl⟩
  obtain ⟨m, hm⟩ : ∃ m, cmpS nB nA = m := ⟨_, rfl⟩
  obtain ⟨j, hj⟩ : ∃ j, cmpS nB nC = j := ⟨_, rfl⟩
  obtain ⟨i, hi⟩ : ∃ i, cmpS nA nC = i := ⟨_, rfl⟩
  obtain ⟨gA, hgA⟩ : ∃ n, ngS nA = n := ⟨_, rfl⟩
  obtain ⟨gB, hgB⟩ : ∃ n, ngS nB = n := ⟨_, rfl⟩
  have hPQ : cmpS nP nQ = k := by rw [← hnP, ← hnQ, cmp_add hcA hcB hcC, hk]
  have hgg : cmpS gA gB = m := by rw [← hgA, ← hgB, cmp_neg hcA hcB, hm]
  have htr : ¬ 0 < k → ¬ 0 < j → i ≤ 0 := fun h1 h2 => by
    have := cmp_trans hcA hcB hcC (by omega) (by omega)
    omega
  have q1 := fun W (hb : Below U5.heap.size U5 W) => cmp_as HP.out (H.out.2.2.2.1.below hb).nm (H.out.2.2.2.2.1.below hb).nm hPQ
  have q2 := fun W (hb : Below U5.heap.size U5 W) => cmp_as HP.out (H.out.1.below hb).nm (H.out.2.1.below hb).nm hk
  have q3 := fun W (hb : Below U5.heap.size U5 W) => neg_n HP.out (H.out.1.below hb).nm
  rw [hgA] at q3
  have q4 := fun W (hb : Below U5.heap.size U5 W) => neg_n HP.out (H.out.2.1.below hb).nm
  rw [hgB] at q4
  have q5 := fun W (hb : Below U5.heap.size U5 W) => cmp_as HP.out (H.out.2.1.below hb).nm (H.out.1.below hb).nm hm
  have q6 := fun W (hb : Below U5.heap.size U5 W) => cmp_as HP.out (H.out.2.1.below hb).nm (H.out.2.2.1.below hb).nm hj
  have q7 := fun W (hb : Below U5.heap.size U5 W) => cmp_as HP.out (H.out.1.below hb).nm (H.out.2.2.1.below hb).nm hi
  have HC : Hid _ := And.intro q1 (And.intro q2 (And.intro q3 (And.intro q4 (And.intro q5 (And.intro q6 (q7))))))
  have HG : Hid _ := And.intro hgg trivial
  have HTR : Hid _ := And.intro htr trivial
  have hw0 : IntKind.i64.wrap 0 = 0 := by decide
  clear q1 q2 q3 q4 q5 q6 q7 hgg htr hk hm hj hi hgA hgB hPQ hcA hcB hcC hnP hnQ hlnP hlnQ
  go_cut [92] (fun v wx => v = .bool false ∧ Below U5.heap.size U5 wx)
  case first =>
    go_region_held3 (fun W => W.cell? ⟨w1.heap.size, 0, none⟩ = some (.bool nA.1) ∧ W.cell? ⟨w1.heap.size, 1, none⟩ = some (.slice a1 nA.2.1.length c1) ∧ W.cell? ⟨w1.heap.size, 2, none⟩ = some (.int .i64 nA.2.2) ∧ W.cell? ⟨w2.heap.size, 0, none⟩ = some (.bool nB.1) ∧ W.cell? ⟨w2.heap.size, 1, none⟩ = some (.slice a2 nB.2.1.length c2) ∧ W.cell? ⟨w2.heap.size, 2, none⟩ = some (.int .i64 nB.2.2) ∧ W.cell? ⟨w3.heap.size, 0, none⟩ = some (.bool nC.1) ∧ W.cell? ⟨w3.heap.size, 1, none⟩ = some (.slice a3 nC.2.1.length c3) ∧ W.cell? ⟨w3.heap.size, 2, none⟩ = some (.int .i64 nC.2.2) ∧ W.cell? ⟨w4.heap.size, 0, none⟩ = some (.bool nP.1) ∧ W.cell? ⟨w4.heap.size, 1, none⟩ = some (.slice a4 nP.2.1.length c4) ∧ W.cell? ⟨w4.heap.size, 2, none⟩ = some (.int .i64 nP.2.2) ∧ W.cell? ⟨w5.heap.size, 0, none⟩ = some (.bool nQ.1) ∧ W.cell? ⟨w5.heap.size, 1, none⟩ = some (.slice a5 nQ.2.1.length c5) ∧ W.cell? ⟨w5.heap.size, 2, none⟩ = some (.int .i64 nQ.2.2)) (exact ⟨g00, g01, g02, g10, g11, g12, g20, g21, g22, g30, g31, g32, g40, g41, g42⟩ ) (first
      | (go_at_call 22; (with_reducible refine Calls.mono (HC.out.1 _ HB.out) ?_); rintro e w9 ⟨rfl, hb9⟩; (first | (have HNA : Hid _ := HNA.out.below hb9) | skip); (first | (have HNB : Hid _ := HNB.out.below hb9) | skip); have hbb := HB.out.trans (hb9.mono HB.out.size); clear HB g00 g01 g02 g10 g11 g12 g20 g21 g22 g30 g31 g32 g40 g41 g42; obtain ⟨⟨g00, g01, g02⟩, ⟨g10, g11, g12⟩, ⟨g20, g21, g22⟩, ⟨g30, g31, g32⟩, ⟨g40, g41, g42⟩⟩ := HKP.out _ hbb; have HB : Hid _ := hbb; clear hbb hb9)
      | (go_at_call 22; (with_reducible refine Calls.mono (HC.out.2.1 _ HB.out) ?_); rintro e w9 ⟨rfl, hb9⟩; (first | (have HNA : Hid _ := HNA.out.below hb9) | skip); (first | (have HNB : Hid _ := HNB.out.below hb9) | skip); have hbb := HB.out.trans (hb9.mono HB.out.size); clear HB g00 g01 g02 g10 g11 g12 g20 g21 g22 g30 g31 g32 g40 g41 g42; obtain ⟨⟨g00, g01, g02⟩, ⟨g10, g11, g12⟩, ⟨g20, g21, g22⟩, ⟨g30, g31, g32⟩, ⟨g40, g41, g42⟩⟩ := HKP.out _ hbb; have HB : Hid _ := hbb; clear hbb hb9)
      | (go_at_call 22; (with_reducible refine Calls.mono (HC.out.2.2.2.2.1 _ HB.out) ?_); rintro e w9 ⟨rfl, hb9⟩; (first | (have HNA : Hid _ := HNA.out.below hb9) | skip); (first | (have HNB : Hid _ := HNB.out.below hb9) | skip); have hbb := HB.out.trans (hb9.mono HB.out.size); clear HB g00 g01 g02 g10 g11 g12 g20 g21 g22 g30 g31 g32 g40 g41 g42; obtain ⟨⟨g00, g01, g02⟩, ⟨g10, g11, g12⟩, ⟨g20, g21, g22⟩, ⟨g30, g31, g32⟩, ⟨g40, g41, g42⟩⟩ := HKP.out _ hbb; have HB : Hid _ := hbb; clear hbb hb9)
      | (go_at_call 24; (with_reducible refine Calls.mono (HC.out.2.2.1 _ HB.out) ?_); rintro e w9 ⟨ga, gc, rfl, hng, hb9⟩; (first | (have HNA : Hid _ := HNA.out.below hb9) | skip); (first | (have HNB : Hid _ := HNB.out.below hb9) | skip); have HNA : Hid _ := hng; clear hng; have hbb := HB.out.trans (hb9.mono HB.out.size); clear HB g00 g01 g02 g10 g11 g12 g20 g21 g22 g30 g31 g32 g40 g41 g42; obtain ⟨⟨g00, g01, g02⟩, ⟨g10, g11, g12⟩, ⟨g20, g21, g22⟩, ⟨g30, g31, g32⟩, ⟨g40, g41, g42⟩⟩ := HKP.out _ hbb; have HB : Hid _ := hbb; clear hbb hb9)
      | (go_at_call 24; (with_reducible refine Calls.mono (HC.out.2.2.2.1 _ HB.out) ?_); rintro e w9 ⟨ga', gc', rfl, hng, hb9⟩; (first | (have HNA : Hid _ := HNA.out.below hb9) | skip); (first | (have HNB : Hid _ := HNB.out.below hb9) | skip); have HNB : Hid _ := hng; clear hng; have hbb := HB.out.trans (hb9.mono HB.out.size); clear HB g00 g01 g02 g10 g11 g12 g20 g21 g22 g30 g31 g32 g40 g41 g42; obtain ⟨⟨g00, g01, g02⟩, ⟨g10, g11, g12⟩, ⟨g20, g21, g22⟩, ⟨g30, g31, g32⟩, ⟨g40, g41, g42⟩⟩ := HKP.out _ hbb; have HB : Hid _ := hbb; clear hbb hb9)
      | (go_at_call 22; (with_reducible refine Calls.mono (cmp_as HP.out HNA.out HNB.out HG.out.1) ?_); rintro e w9 ⟨rfl, hb9⟩; (first | (have HNA : Hid _ := HNA.out.below hb9) | skip); (first | (have HNB : Hid _ := HNB.out.below hb9) | skip); have hbb := HB.out.trans (hb9.mono HB.out.size); clear HB g00 g01 g02 g10 g11 g12 g20 g21 g22 g30 g31 g32 g40 g41 g42; obtain ⟨⟨g00, g01, g02⟩, ⟨g10, g11, g12⟩, ⟨g20, g21, g22⟩, ⟨g30, g31, g32⟩, ⟨g40, g41, g42⟩⟩ := HKP.out _ hbb; have HB : Hid _ := hbb; clear hbb hb9))
    all_goals
      go_wp2_with fail
      go_meet
      case rel => exact ⟨by simp, HB.out⟩
  case rest =>
    obtain ⟨rfl, hbc⟩ := hcut
    have HB : Hid _ := hbc
    clear g00 g01 g02 g10 g11 g12 g20 g21 g22 g30 g31 g32 g40 g41 g42
    obtain ⟨⟨g00, g01, g02⟩, ⟨g10, g11, g12⟩, ⟨g20, g21, g22⟩, ⟨g30, g31, g32⟩, ⟨g40, g41, g42⟩⟩ := HKP.out _ hbc
    clear hbc
    by_cases hk0 : 0 < k
    · go_wp2_with (first
        | (go_at_call 22; (with_reducible refine Calls.mono (HC.out.2.1 _ HB.out) ?_); rintro e w9 ⟨rfl, hb9⟩; have hbb := HB.out.trans (hb9.mono HB.out.size); clear HB g00 g01 g02 g10 g11 g12 g20 g21 g22 g30 g31 g32 g40 g41 g42; obtain ⟨⟨g00, g01, g02⟩, ⟨g10, g11, g12⟩, ⟨g20, g21, g22⟩, ⟨g30, g31, g32⟩, ⟨g40, g41, g42⟩⟩ := HKP.out _ hbb; have HB : Hid _ := hbb; clear hbb hb9)
        | (go_at_call 22; (with_reducible refine Calls.mono (HC.out.2.2.2.2.2.1 _ HB.out) ?_); rintro e w9 ⟨rfl, hb9⟩; have hbb := HB.out.trans (hb9.mono HB.out.size); clear HB g00 g01 g02 g10 g11 g12 g20 g21 g22 g30 g31 g32 g40 g41 g42; obtain ⟨⟨g00, g01, g02⟩, ⟨g10, g11, g12⟩, ⟨g20, g21, g22⟩, ⟨g30, g31, g32⟩, ⟨g40, g41, g42⟩⟩ := HKP.out _ hbb; have HB : Hid _ := hbb; clear hbb hb9)
        | (go_at_call 22; (with_reducible refine Calls.mono (HC.out.2.2.2.2.2.2 _ HB.out) ?_); rintro e w9 ⟨rfl, hb9⟩; have hbb := HB.out.trans (hb9.mono HB.out.size); clear HB g00 g01 g02 g10 g11 g12 g20 g21 g22 g30 g31 g32 g40 g41 g42; obtain ⟨⟨g00, g01, g02⟩, ⟨g10, g11, g12⟩, ⟨g20, g21, g22⟩, ⟨g30, g31, g32⟩, ⟨g40, g41, g42⟩⟩ := HKP.out _ hbb; have HB : Hid _ := hbb; clear hbb hb9))
      go_ret
      exact ⟨rfl, HB0.out.trans (HB.out.mono HB0.out.size)⟩
    by_cases hj0 : 0 < j
    · go_wp2_with (first
        | (go_at_call 22; (with_reducible refine Calls.mono (HC.out.2.1 _ HB.out) ?_); rintro e w9 ⟨rfl, hb9⟩; have hbb := HB.out.trans (hb9.mono HB.out.size); clear HB g00 g01 g02 g10 g11 g12 g20 g21 g22 g30 g31 g32 g40 g41 g42; obtain ⟨⟨g00, g01, g02⟩, ⟨g10, g11, g12⟩, ⟨g20, g21, g22⟩, ⟨g30, g31, g32⟩, ⟨g40, g41, g42⟩⟩ := HKP.out _ hbb; have HB : Hid _ := hbb; clear hbb hb9)
        | (go_at_call 22; (with_reducible refine Calls.mono (HC.out.2.2.2.2.2.1 _ HB.out) ?_); rintro e w9 ⟨rfl, hb9⟩; have hbb := HB.out.trans (hb9.mono HB.out.size); clear HB g00 g01 g02 g10 g11 g12 g20 g21 g22 g30 g31 g32 g40 g41 g42; obtain ⟨⟨g00, g01, g02⟩, ⟨g10, g11, g12⟩, ⟨g20, g21, g22⟩, ⟨g30, g31, g32⟩, ⟨g40, g41, g42⟩⟩ := HKP.out _ hbb; have HB : Hid _ := hbb; clear hbb hb9)
        | (go_at_call 22; (with_reducible refine Calls.mono (HC.out.2.2.2.2.2.2 _ HB.out) ?_); rintro e w9 ⟨rfl, hb9⟩; have hbb := HB.out.trans (hb9.mono HB.out.size); clear HB g00 g01 g02 g10 g11 g12 g20 g21 g22 g30 g31 g32 g40 g41 g42; obtain ⟨⟨g00, g01, g02⟩, ⟨g10, g11, g12⟩, ⟨g20, g21, g22⟩, ⟨g30, g31, g32⟩, ⟨g40, g41, g42⟩⟩ := HKP.out _ hbb; have HB : Hid _ := hbb; clear hbb hb9))
      go_ret
      exact ⟨rfl, HB0.out.trans (HB.out.mono HB0.out.size)⟩
    have hi0 : i ≤ 0 := HTR.out.1 hk0 hj0
    go_wp2_with (first
      | (go_at_call 22; (with_reducible refine Calls.mono (HC.out.2.1 _ HB.out) ?_); rintro e w9 ⟨rfl, hb9⟩; have hbb := HB.out.trans (hb9.mono HB.out.size); clear HB g00 g01 g02 g10 g11 g12 g20 g21 g22 g30 g31 g32 g40 g41 g42; obtain ⟨⟨g00, g01, g02⟩, ⟨g10, g11, g12⟩, ⟨g20, g21, g22⟩, ⟨g30, g31, g32⟩, ⟨g40, g41, g42⟩⟩ := HKP.out _ hbb; have HB : Hid _ := hbb; clear hbb hb9)
      | (go_at_call 22; (with_reducible refine Calls.mono (HC.out.2.2.2.2.2.1 _ HB.out) ?_); rintro e w9 ⟨rfl, hb9⟩; have hbb := HB.out.trans (hb9.mono HB.out.size); clear HB g00 g01 g02 g10 g11 g12 g20 g21 g22 g30 g31 g32 g40 g41 g42; obtain ⟨⟨g00, g01, g02⟩, ⟨g10, g11, g12⟩, ⟨g20, g21, g22⟩, ⟨g30, g31, g32⟩, ⟨g40, g41, g42⟩⟩ := HKP.out _ hbb; have HB : Hid _ := hbb; clear hbb hb9)
      | (go_at_call 22; (with_reducible refine Calls.mono (HC.out.2.2.2.2.2.2 _ HB.out) ?_); rintro e w9 ⟨rfl, hb9⟩; have hbb := HB.out.trans (hb9.mono HB.out.size); clear HB g00 g01 g02 g10 g11 g12 g20 g21 g22 g30 g31 g32 g40 g41 g42; obtain ⟨⟨g00, g01, g02⟩, ⟨g10, g11, g12⟩, ⟨g20, g21, g22⟩, ⟨g30, g31, g32⟩, ⟨g40, g41, g42⟩⟩ := HKP.out _ hbb; have HB : Hid _ := hbb; clear hbb hb9))
    go_ret
    exact ⟨rfl, HB0.out.trans (HB.out.mono HB0.out.size)⟩
end Go.Proofs.Ytakemkhgaicckaa
