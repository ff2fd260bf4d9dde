/- KindPairs: its walk. -/
import Derived.Test.YtgaegajcejpmdaaGreatDoorHJ46
import Derived.Laws.Tables
import Derived.Deep.MidRow
import Derived.Deep.RegionHeld3
import Derived.Deep.DeepCutAuto
namespace Go.Proofs.YtgaegajcejpmdaaGreatDoor
open Go.RowKit
set_option linter.unusedVariables false
set_option linter.unusedSimpArgs false

theorem vl_inj {p p' s s' : Int} {t t' : ByteArray} {g g' : Bool} {a a' : Option Addr} {b b' c c' : Nat} {m m' : Dt.Mo} {q q' : Dt.Sp} (h : vlV p t g (.slice a b c) s m q = vlV p' t' g' (.slice a' b' c') s' m' q') : p = p' ∧ t = t' ∧ g = g' ∧ a = a' ∧ b = b' ∧ c = c' ∧ s = s' := by
  simp at h
  obtain ⟨h1, h2, h3, ⟨h4, h5, h6⟩, h7, _⟩ := h
  exact ⟨h1, h2, h3, h4, h5, h6, h7⟩
set_option maxRecDepth 100000 in
set_option maxHeartbeats 25600000 in
theorem pairs_s (k j : Int) (s t : ByteArray) (w : World) (hw : Lw w) (hs : s.size ≤ 400) (ht : t.size ≤ 400) : Calls Tryz.prog 5 #[.int .i64 k, .string s, .int .i64 j, .string t] w fun e w' => e = .returned (.bool true) ∧ Below w.heap.size w w' := by
  go_enter Tryz.func5, Tryz.ntmps5
  go_upto_region 6 with (first | (go_at_call 8; refine Calls.mono (known_l _ hw) ?_; rintro e w1 ⟨rfl, hb1⟩; have HB1 : Hid _ := hb1; clear hb1) | (go_at_call 21; refine Calls.mono (parse_q k s _ (by omega) (hw.below HB1.out)) ?_; rintro e w2 ⟨hb2, p1, t1, g1, a1, b1, c1, s1, m1, q1, rfl, hv1⟩; have HB2 : Hid _ := HB1.out.trans (hb2.mono HB1.out.size); have HV1 : Hid _ := hv1; clear hb2 hv1) | (refine wpList_store_row rfl 40 _ _ rfl _ _ rfl rfl 40 _ (nw_heap _ _) (by kernel_rfl) rfl (by simp [Value.oneCell']) ?_; rw [alloc_setRow]))
  have hxU := nw_heap w2 (.cells #[.int .i64 p1, .string t1, .bool g1, .slice a1 b1 c1, .int .i64 s1, .int .i64 m1.k, .int .i64 m1.y, .int .i64 m1.m, .int .i64 m1.d, .int .i64 m1.s, .int .i64 m1.n, .bool m1.hz, .int .i64 m1.z, .int .i64 q1.o, .int .i64 q1.s, .int .i64 q1.n] 40)
  have hbU : Below w2.heap.size w2 (w2.alloc (.cells #[.int .i64 p1, .string t1, .bool g1, .slice a1 b1 c1, .int .i64 s1, .int .i64 m1.k, .int .i64 m1.y, .int .i64 m1.m, .int .i64 m1.d, .int .i64 m1.s, .int .i64 m1.n, .bool m1.hz, .int .i64 m1.z, .int .i64 q1.o, .int .i64 q1.s, .int .i64 q1.n] 40)) := (Below.refl _ _).alloc (Nat.le_refl _) _
  obtain ⟨U, hUU⟩ : ∃ X, w2.alloc (.cells #[.int .i64 p1, .string t1, .bool g1, .slice a1 b1 c1, .int .i64 s1, .int .i64 m1.k, .int .i64 m1.y, .int .i64 m1.m, .int .i64 m1.d, .int .i64 m1.s, .int .i64 m1.n, .bool m1.hz, .int .i64 m1.z, .int .i64 q1.o, .int .i64 q1.s, .int .i64 q1.n] 40) = X := ⟨_, rfl⟩
  rw [hUU] at hxU hbU ⊢
  have HU : Hid _ := And.intro (HB2.out.trans (hbU.mono HB2.out.size)) (And.intro hxU (fun d hd => (HV1.out d hd).below hbU))
  clear hxU hbU hUU HV1 HB2 HB1
  generalize w2.heap.size = X at *
  clear w2
  go_upto_region 7 with (first | (go_at_call 21; refine Calls.mono (parse_q j t _ (by omega) (hw.below HU.out.1)) ?_; rintro e w3 ⟨hb3, p2, t2, g2, a2, b2, c2, s2, m2, q2, rfl, hv2⟩; have HB3 : Hid _ := hb3; have HV2 : Hid _ := hv2; clear hb3 hv2) | (refine wpList_store_row rfl 40 _ _ rfl _ _ rfl rfl 40 _ (nw_heap _ _) (by kernel_rfl) rfl (by simp [Value.oneCell']) ?_; rw [alloc_setRow]))
  have hyV := nw_heap w3 (.cells #[.int .i64 p2, .string t2, .bool g2, .slice a2 b2 c2, .int .i64 s2, .int .i64 m2.k, .int .i64 m2.y, .int .i64 m2.m, .int .i64 m2.d, .int .i64 m2.s, .int .i64 m2.n, .bool m2.hz, .int .i64 m2.z, .int .i64 q2.o, .int .i64 q2.s, .int .i64 q2.n] 40)
  have hbV : Below w3.heap.size w3 (w3.alloc (.cells #[.int .i64 p2, .string t2, .bool g2, .slice a2 b2 c2, .int .i64 s2, .int .i64 m2.k, .int .i64 m2.y, .int .i64 m2.m, .int .i64 m2.d, .int .i64 m2.s, .int .i64 m2.n, .bool m2.hz, .int .i64 m2.z, .int .i64 q2.o, .int .i64 q2.s, .int .i64 q2.n] 40)) := (Below.refl _ _).alloc (Nat.le_refl _) _
  obtain ⟨V, hVV⟩ : ∃ X, w3.alloc (.cells #[.int .i64 p2, .string t2, .bool g2, .slice a2 b2 c2, .int .i64 s2, .int .i64 m2.k, .int .i64 m2.y, .int .i64 m2.m, .int .i64 m2.d, .int .i64 m2.s, .int .i64 m2.n, .bool m2.hz, .int .i64 m2.z, .int .i64 q2.o, .int .i64 q2.s, .int .i64 q2.n] 40) = X := ⟨_, rfl⟩
  rw [hVV] at hyV hbV ⊢
  have hUV := HB3.out.trans (hbV.mono HB3.out.size)
  have HV : Hid _ := And.intro (HU.out.1.trans (hUV.mono HU.out.1.size)) (And.intro ((hUV.block _ (Dc.lt_of HU.out.2.1)).trans HU.out.2.1) (And.intro hyV (And.intro (fun d hd => (HU.out.2.2 d hd).below hUV) (fun d hd => (HV2.out d hd).below hbV))))
  clear hyV hbV hVV HV2 HB3 HU hUV
  generalize w3.heap.size = Y at *
  clear w3
  have HE1 : Hid _ := er_o k s
  have HE2 : Hid _ := er_o j t
  generalize erS k s = e1 at *
  generalize erS j t = e2 at *
  by_cases h1 : e1 = 0
  case neg =>
    have h1b : (e1 == 0) = false := by simpa using h1
    have h1c : (e1 != 0) = true := by simpa using h1
    clear h1
    go_wp2_with fail
    go_ret
    exact ⟨rfl, HV.out.1⟩
  subst h1
  by_cases h2 : e2 = 0
  case neg =>
    have h2b : (e2 == 0) = false := by simpa using h2
    have h2c : (e2 != 0) = true := by simpa using h2
    clear h2
    go_wp2_with fail
    go_ret
    exact ⟨rfl, HV.out.1⟩
  subst h2
  obtain ⟨d1, ho1, hk1, hp1⟩ : ∃ d, oS k s = some d ∧ isK k = true ∧ psS k s = some d := by rcases HE1.out with q | q; exact q.2; omega
  obtain ⟨d2, ho2, hk2, hp2⟩ : ∃ d, oS j t = some d ∧ isK j = true ∧ psS j t = some d := by rcases HE2.out with q | q; exact q.2; omega
  have k1 := ps_ok hk1 hp1
  have k2 := ps_ok hk2 hp2
  have v1 := HV.out.2.2.2.1 d1 ho1
  have v2 := HV.out.2.2.2.2 d2 ho2
  have HC : Hid _ := fun W (hW : Below V.heap.size V W) => p_any (v1.below hW) (v2.below hW) k1 k2
  have HD : Hid _ := fun W (hW : Below V.heap.size V W) => p_any (v2.below hW) (v1.below hW) k2 k1
  have HR : Hid _ := fun W (hW : Below V.heap.size V W) => r_any (v1.below hW) (v2.below hW) k1 k2
  have HE : Hid _ := fun W (hW : Below V.heap.size V W) => same_p (v1.below hW) (v2.below hW) k1 k2
  have hrev := cmp_rev k1 k2
  have HREST : Hid _ := And.intro v1 (And.intro v2 (And.intro k1 (And.intro k2 (And.intro hp1 hp2))))
  clear v1 v2 k1 k2 hp1 hp2 ho1 ho2 hk1 hk2 HE1 HE2
  obtain ⟨c, hc⟩ : ∃ c, cmpD d1 d2 = c := ⟨_, rfl⟩
  obtain ⟨d, hd⟩ : ∃ c, cmpD d2 d1 = c := ⟨_, rfl⟩
  rw [hc] at HC HR HE hrev
  rw [hd] at HD hrev
  have HEQ : Hid _ := hc
  clear hc hd
  have HK : Hid (∀ W, Below V.heap.size V W → _ ∧ _) := fun W hW => And.intro ((hW.block _ (Dc.lt_of HV.out.2.1)).trans HV.out.2.1) ((hW.block _ (Dc.lt_of HV.out.2.2.1)).trans HV.out.2.2.1)
  obtain ⟨hx, hy⟩ := HK.out V (Below.refl _ _)
  have HB : Hid (Below V.heap.size V V) := Below.refl _ _
  go_upto_region 10 with (first | (refine wpList_load_row rfl 40 _ rfl X rfl 40 _ (0, 0) _ hx Tryz.underlying40 rfl (by kernel_rfl) ?_) | (refine wpList_load_row rfl 40 _ rfl Y rfl 40 _ (0, 0) _ hy Tryz.underlying40 rfl (by kernel_rfl) ?_) | (go_at_call 27; refine Calls.mono (HC.out _ HB.out) ?_; rintro e w9 ⟨rfl, hb9⟩; have hbb := HB.out.trans (hb9.mono HB.out.size); clear HB hx hy; obtain ⟨hx, hy⟩ := HK.out _ hbb; have HB : Hid _ := hbb; clear hbb hb9))
  go_upto_region 11 with (first | (refine wpList_load_row rfl 40 _ rfl X rfl 40 _ (0, 0) _ hx Tryz.underlying40 rfl (by kernel_rfl) ?_) | (refine wpList_load_row rfl 40 _ rfl Y rfl 40 _ (0, 0) _ hy Tryz.underlying40 rfl (by kernel_rfl) ?_) | (go_at_call 27; refine Calls.mono (HD.out _ HB.out) ?_; rintro e w8 ⟨rfl, hb9⟩; have hbb := HB.out.trans (hb9.mono HB.out.size); clear HB hx hy; obtain ⟨hx, hy⟩ := HK.out _ hbb; have HB : Hid _ := hbb; clear hbb hb9))
  have HB0 : Hid _ := HB.out
  clear HB
  have HB : Hid (Below V.heap.size V w8.drew) := HB0.out.trans ((Dc.Below.drewN' 1).mono HB0.out.size)
  rcases hrev with ⟨hc2, hd2⟩ | ⟨hc2, hc0, hc1, hd2⟩
  case' inl =>
    have hcb : (c == 2) = true := by simpa using hc2
    have hcn : (c != 2) = false := by simpa using hc2
    have hdn : (d != 2) = false := by simpa using hd2
    have HCC : Hid (c = 2 ∨ c ≠ 2) := .inl hc2
    clear hc2 hd2
    refine wp_region_held_drew (S := fun W => W.heap[X]? = some (.cells [.int .i64 p1, .string t1, .bool g1, .slice a1 b1 c1, .int .i64 s1, .int .i64 m1.k, .int .i64 m1.y, .int .i64 m1.m, .int .i64 m1.d, .int .i64 m1.s, .int .i64 m1.n, .bool m1.hz, .int .i64 m1.z, .int .i64 q1.o, .int .i64 q1.s, .int .i64 q1.n].toArray 40 (0, 0)) ∧ W.heap[Y]? = some (.cells [.int .i64 p2, .string t2, .bool g2, .slice a2 b2 c2, .int .i64 s2, .int .i64 m2.k, .int .i64 m2.y, .int .i64 m2.m, .int .i64 m2.d, .int .i64 m2.s, .int .i64 m2.n, .bool m2.hz, .int .i64 m2.z, .int .i64 q2.o, .int .i64 q2.s, .int .i64 q2.n].toArray 40 (0, 0))) (by kernel_rfl) ⟨hx, hy⟩ (fun hHeld => ?_)
    refine wpAnyH_take (i := 0) (v := (.int .i64 c)) rfl (by kernel_rfl) (by kernel_rfl) (by kernel_rfl) (fun _ _ _ h => h) (Or.inl ⟨by kernel_rfl, fun w' hSw => (by go_simp)⟩) (by assumption) ?_
    try simp only [Act.put, List.getElem_toArray, List.getElem_cons_zero, List.getElem_cons_succ, List.setIfInBounds_toArray, List.set_cons_zero, List.set_cons_succ]
    refine wpAnyH_take (i := 1) (v := (.agg #[.int .i64 p1, .string t1, .bool g1, .slice a1 b1 c1, .int .i64 s1, .int .i64 m1.k, .int .i64 m1.y, .int .i64 m1.m, .int .i64 m1.d, .int .i64 m1.s, .int .i64 m1.n, .bool m1.hz, .int .i64 m1.z, .int .i64 q1.o, .int .i64 q1.s, .int .i64 q1.n])) rfl (by kernel_rfl) (by kernel_rfl) (by kernel_rfl) (fun _ _ _ h => h) (yieldsIf_load_mid (by kernel_rfl) 40 _ rfl X 0 rfl [.int .i64 p1, .string t1, .bool g1, .slice a1 b1 c1, .int .i64 s1, .int .i64 m1.k, .int .i64 m1.y, .int .i64 m1.m, .int .i64 m1.d, .int .i64 m1.s, .int .i64 m1.n, .bool m1.hz, .int .i64 m1.z, .int .i64 q1.o, .int .i64 q1.s, .int .i64 q1.n] _ (fun W hW => rng0 hW.1) Tryz.underlying40 rfl (by kernel_rfl)) (by assumption) ?_
    try simp only [Act.put, List.getElem_toArray, List.getElem_cons_zero, List.getElem_cons_succ, List.setIfInBounds_toArray, List.set_cons_zero, List.set_cons_succ]
    refine wpAnyH_take (i := 3) (v := (.agg #[.int .i64 p2, .string t2, .bool g2, .slice a2 b2 c2, .int .i64 s2, .int .i64 m2.k, .int .i64 m2.y, .int .i64 m2.m, .int .i64 m2.d, .int .i64 m2.s, .int .i64 m2.n, .bool m2.hz, .int .i64 m2.z, .int .i64 q2.o, .int .i64 q2.s, .int .i64 q2.n])) rfl (by kernel_rfl) (by kernel_rfl) (by kernel_rfl) (fun _ _ _ h => h) (yieldsIf_load_mid (by kernel_rfl) 40 _ rfl Y 0 rfl [.int .i64 p2, .string t2, .bool g2, .slice a2 b2 c2, .int .i64 s2, .int .i64 m2.k, .int .i64 m2.y, .int .i64 m2.m, .int .i64 m2.d, .int .i64 m2.s, .int .i64 m2.n, .bool m2.hz, .int .i64 m2.z, .int .i64 q2.o, .int .i64 q2.s, .int .i64 q2.n] _ (fun W hW => rng0 hW.2) Tryz.underlying40 rfl (by kernel_rfl)) (by assumption) ?_
    try simp only [Act.put, List.getElem_toArray, List.getElem_cons_zero, List.getElem_cons_succ, List.setIfInBounds_toArray, List.set_cons_zero, List.set_cons_succ]
    refine wpAnyH_ready (rs := [2]) (by kernel_rfl) (by simp) ?_
    refine AllReadyH.cons rfl (fun K hK => ?_) AllReadyH.nil
    go_simp
    refine Calls.mono (of_l _ _ _ _ _ _ _ _ _ _) ?_
    rintro e w9 ⟨rfl, hb9⟩
    have hbb := HB.out.trans (hb9.mono HB.out.size)
    have hS9 := HK.out _ hbb
    clear HB hHeld
    have HB : Hid _ := hbb
    clear hbb hb9
    go_wp2_with fail
    refine hK.out _ _ hS9 (fun hHeld => ?_)
    clear hK K hS9
    try simp only [Act.put, List.getElem_toArray, List.getElem_cons_zero, List.getElem_cons_succ, List.setIfInBounds_toArray, List.set_cons_zero, List.set_cons_succ]
    refine wpAnyH_ready (rs := [4]) (by kernel_rfl) (by simp) ?_
    refine AllReadyH.cons rfl (fun K hK => ?_) AllReadyH.nil
    go_simp
    refine Calls.mono (of_l _ _ _ _ _ _ _ _ _ _) ?_
    rintro e w9 ⟨rfl, hb9⟩
    have hbb := HB.out.trans (hb9.mono HB.out.size)
    have hS9 := HK.out _ hbb
    clear HB hHeld
    have HB : Hid _ := hbb
    clear hbb hb9
    go_wp2_with fail
    refine hK.out _ _ hS9 (fun hHeld => ?_)
    clear hK K hS9
    try simp only [Act.put, List.getElem_toArray, List.getElem_cons_zero, List.getElem_cons_succ, List.setIfInBounds_toArray, List.set_cons_zero, List.set_cons_succ]
    refine wpAnyH_ready (rs := [5]) (by kernel_rfl) (by simp) ?_
    refine AllReadyH.cons rfl (fun K hK => ?_) AllReadyH.nil
    go_simp
    refine Calls.mono (HR.out _ HB.out) ?_
    rintro e w9 ⟨rfl, hb9⟩
    have hbb := HB.out.trans (hb9.mono HB.out.size)
    have hS9 := HK.out _ hbb
    clear HB hHeld
    have HB : Hid _ := hbb
    clear hbb hb9
    go_wp2_with fail
    refine hK.out _ _ hS9 (fun hHeld => ?_)
    clear hK K hS9
    try simp only [Act.put, List.getElem_toArray, List.getElem_cons_zero, List.getElem_cons_succ, List.setIfInBounds_toArray, List.set_cons_zero, List.set_cons_succ]
    refine wpAnyH_take (i := 6) (v := (.bool false)) rfl (by kernel_rfl) (by kernel_rfl) (by kernel_rfl) (fun _ _ _ h => h) (Or.inl ⟨by kernel_rfl, fun w' hSw => (by go_simp)⟩) (by assumption) ?_
    try simp only [Act.put, List.getElem_toArray, List.getElem_cons_zero, List.getElem_cons_succ, List.setIfInBounds_toArray, List.set_cons_zero, List.set_cons_succ]
    refine wpAnyH_take (i := 7) (v := (.bool false)) rfl (by kernel_rfl) (by kernel_rfl) (by kernel_rfl) (fun _ _ _ h => h) (Or.inl ⟨by kernel_rfl, fun w' hSw => (by go_simp)⟩) (by assumption) ?_
    try simp only [Act.put, List.getElem_toArray, List.getElem_cons_zero, List.getElem_cons_succ, List.setIfInBounds_toArray, List.set_cons_zero, List.set_cons_succ]
    refine wpAnyH_take (i := 8) (v := (.agg #[.int .i64 p1, .string t1, .bool g1, .slice a1 b1 c1, .int .i64 s1, .int .i64 m1.k, .int .i64 m1.y, .int .i64 m1.m, .int .i64 m1.d, .int .i64 m1.s, .int .i64 m1.n, .bool m1.hz, .int .i64 m1.z, .int .i64 q1.o, .int .i64 q1.s, .int .i64 q1.n])) rfl (by kernel_rfl) (by kernel_rfl) (by kernel_rfl) (fun _ _ _ h => h) (yieldsIf_load_mid (by kernel_rfl) 40 _ rfl X 0 rfl [.int .i64 p1, .string t1, .bool g1, .slice a1 b1 c1, .int .i64 s1, .int .i64 m1.k, .int .i64 m1.y, .int .i64 m1.m, .int .i64 m1.d, .int .i64 m1.s, .int .i64 m1.n, .bool m1.hz, .int .i64 m1.z, .int .i64 q1.o, .int .i64 q1.s, .int .i64 q1.n] _ (fun W hW => rng0 hW.1) Tryz.underlying40 rfl (by kernel_rfl)) (by assumption) ?_
    try simp only [Act.put, List.getElem_toArray, List.getElem_cons_zero, List.getElem_cons_succ, List.setIfInBounds_toArray, List.set_cons_zero, List.set_cons_succ]
    refine wpAnyH_take (i := 9) (v := (.agg #[.int .i64 p2, .string t2, .bool g2, .slice a2 b2 c2, .int .i64 s2, .int .i64 m2.k, .int .i64 m2.y, .int .i64 m2.m, .int .i64 m2.d, .int .i64 m2.s, .int .i64 m2.n, .bool m2.hz, .int .i64 m2.z, .int .i64 q2.o, .int .i64 q2.s, .int .i64 q2.n])) rfl (by kernel_rfl) (by kernel_rfl) (by kernel_rfl) (fun _ _ _ h => h) (yieldsIf_load_mid (by kernel_rfl) 40 _ rfl Y 0 rfl [.int .i64 p2, .string t2, .bool g2, .slice a2 b2 c2, .int .i64 s2, .int .i64 m2.k, .int .i64 m2.y, .int .i64 m2.m, .int .i64 m2.d, .int .i64 m2.s, .int .i64 m2.n, .bool m2.hz, .int .i64 m2.z, .int .i64 q2.o, .int .i64 q2.s, .int .i64 q2.n] _ (fun W hW => rng0 hW.2) Tryz.underlying40 rfl (by kernel_rfl)) (by assumption) ?_
    try simp only [Act.put, List.getElem_toArray, List.getElem_cons_zero, List.getElem_cons_succ, List.setIfInBounds_toArray, List.set_cons_zero, List.set_cons_succ]
    refine wpAnyH_take (i := 11) (v := (.int .i64 c)) rfl (by kernel_rfl) (by kernel_rfl) (by kernel_rfl) (fun _ _ _ h => h) (Or.inl ⟨by kernel_rfl, fun w' hSw => (by go_simp)⟩) (by assumption) ?_
    try simp only [Act.put, List.getElem_toArray, List.getElem_cons_zero, List.getElem_cons_succ, List.setIfInBounds_toArray, List.set_cons_zero, List.set_cons_succ]
    refine wpAnyH_take (i := 12) (v := (.bool (c == 0))) rfl (by kernel_rfl) (by kernel_rfl) (by kernel_rfl) (fun _ _ _ h => h) (Or.inl ⟨by kernel_rfl, fun w' hSw => (by go_simp)⟩) (by assumption) ?_
    try simp only [Act.put, List.getElem_toArray, List.getElem_cons_zero, List.getElem_cons_succ, List.setIfInBounds_toArray, List.set_cons_zero, List.set_cons_succ]
    refine wpAnyH_ready (rs := [10]) (by kernel_rfl) (by simp) ?_
    refine AllReadyH.cons rfl (fun K hK => ?_) AllReadyH.nil
    go_simp
    refine Calls.mono (HE.out _ HB.out) ?_
    rintro e w9 ⟨rfl, hb9⟩
    have hbb := HB.out.trans (hb9.mono HB.out.size)
    have hS9 := HK.out _ hbb
    clear HB hHeld
    have HB : Hid _ := hbb
    clear hbb hb9
    go_wp2_with fail
    refine hK.out _ _ hS9 (fun hHeld => ?_)
    clear hK K hS9
    try simp only [Act.put, List.getElem_toArray, List.getElem_cons_zero, List.getElem_cons_succ, List.setIfInBounds_toArray, List.set_cons_zero, List.set_cons_succ]
    refine wpAnyH_take (i := 13) (v := (.bool false)) rfl (by kernel_rfl) (by kernel_rfl) (by kernel_rfl) (fun _ _ _ h => h) (Or.inl ⟨by kernel_rfl, fun w' hSw => (by go_simp)⟩) (by assumption) ?_
    try simp only [Act.put, List.getElem_toArray, List.getElem_cons_zero, List.getElem_cons_succ, List.setIfInBounds_toArray, List.set_cons_zero, List.set_cons_succ]
    refine wpAnyH_take (i := 14) (v := (.bool false)) rfl (by kernel_rfl) (by kernel_rfl) (by kernel_rfl) (fun _ _ _ h => h) (Or.inl ⟨by kernel_rfl, fun w' hSw => (by go_simp)⟩) (by assumption) ?_
    try simp only [Act.put, List.getElem_toArray, List.getElem_cons_zero, List.getElem_cons_succ, List.setIfInBounds_toArray, List.set_cons_zero, List.set_cons_succ]
    refine wpAnyH_take (i := 15) (v := (.bool false)) rfl (by kernel_rfl) (by kernel_rfl) (by kernel_rfl) (fun _ _ _ h => h) (Or.inl ⟨by kernel_rfl, fun w' hSw => (by go_simp)⟩) (by assumption) ?_
    try simp only [Act.put, List.getElem_toArray, List.getElem_cons_zero, List.getElem_cons_succ, List.setIfInBounds_toArray, List.set_cons_zero, List.set_cons_succ]
    refine wpAnyH_take (i := 16) (v := (.int .i64 c)) rfl (by kernel_rfl) (by kernel_rfl) (by kernel_rfl) (fun _ _ _ h => h) (Or.inl ⟨by kernel_rfl, fun w' hSw => (by go_simp)⟩) (by assumption) ?_
    try simp only [Act.put, List.getElem_toArray, List.getElem_cons_zero, List.getElem_cons_succ, List.setIfInBounds_toArray, List.set_cons_zero, List.set_cons_succ]
    refine wpAnyH_take (i := 17) (v := (.bool true)) rfl (by kernel_rfl) (by kernel_rfl) (by kernel_rfl) (fun _ _ _ h => h) (Or.inl ⟨by kernel_rfl, fun w' hSw => (by go_simp)⟩) (by assumption) ?_
    try simp only [Act.put, List.getElem_toArray, List.getElem_cons_zero, List.getElem_cons_succ, List.setIfInBounds_toArray, List.set_cons_zero, List.set_cons_succ]
    refine wpAnyH_take (i := 18) (v := (.bool true)) rfl (by kernel_rfl) (by kernel_rfl) (by kernel_rfl) (fun _ _ _ h => h) (Or.inl ⟨by kernel_rfl, fun w' hSw => (by go_simp)⟩) (by assumption) ?_
    try simp only [Act.put, List.getElem_toArray, List.getElem_cons_zero, List.getElem_cons_succ, List.setIfInBounds_toArray, List.set_cons_zero, List.set_cons_succ]
    refine wpAnyH_take (i := 19) (v := (.int .i64 d)) rfl (by kernel_rfl) (by kernel_rfl) (by kernel_rfl) (fun _ _ _ h => h) (Or.inl ⟨by kernel_rfl, fun w' hSw => (by go_simp)⟩) (by assumption) ?_
    try simp only [Act.put, List.getElem_toArray, List.getElem_cons_zero, List.getElem_cons_succ, List.setIfInBounds_toArray, List.set_cons_zero, List.set_cons_succ]
    refine wpAnyH_take (i := 20) (v := (.bool false)) rfl (by kernel_rfl) (by kernel_rfl) (by kernel_rfl) (fun _ _ _ h => h) (Or.inl ⟨by kernel_rfl, fun w' hSw => (by go_simp)⟩) (by assumption) ?_
    try simp only [Act.put, List.getElem_toArray, List.getElem_cons_zero, List.getElem_cons_succ, List.setIfInBounds_toArray, List.set_cons_zero, List.set_cons_succ]
    refine wpAnyH_take (i := 21) (v := (.bool false)) rfl (by kernel_rfl) (by kernel_rfl) (by kernel_rfl) (fun _ _ _ h => h) (Or.inl ⟨by kernel_rfl, fun w' hSw => (by go_simp)⟩) (by assumption) ?_
    try simp only [Act.put, List.getElem_toArray, List.getElem_cons_zero, List.getElem_cons_succ, List.setIfInBounds_toArray, List.set_cons_zero, List.set_cons_succ]
    refine wpAnyH_take (i := 22) (v := (.bool false)) rfl (by kernel_rfl) (by kernel_rfl) (by kernel_rfl) (fun _ _ _ h => h) (Or.inl ⟨by kernel_rfl, fun w' hSw => (by go_simp)⟩) (by assumption) ?_
    try simp only [Act.put, List.getElem_toArray, List.getElem_cons_zero, List.getElem_cons_succ, List.setIfInBounds_toArray, List.set_cons_zero, List.set_cons_succ]
    refine wpAnyH_take (i := 23) (v := (.bool false)) rfl (by kernel_rfl) (by kernel_rfl) (by kernel_rfl) (fun _ _ _ h => h) (Or.inl ⟨by kernel_rfl, fun w' hSw => (by go_simp)⟩) (by assumption) ?_
    try simp only [Act.put, List.getElem_toArray, List.getElem_cons_zero, List.getElem_cons_succ, List.setIfInBounds_toArray, List.set_cons_zero, List.set_cons_succ]
    refine wpAnyH_take (i := 24) (v := (.int .i64 c)) rfl (by kernel_rfl) (by kernel_rfl) (by kernel_rfl) (fun _ _ _ h => h) (Or.inl ⟨by kernel_rfl, fun w' hSw => (by go_simp)⟩) (by assumption) ?_
    try simp only [Act.put, List.getElem_toArray, List.getElem_cons_zero, List.getElem_cons_succ, List.setIfInBounds_toArray, List.set_cons_zero, List.set_cons_succ]
    refine wpAnyH_take (i := 25) (v := (.bool false)) rfl (by kernel_rfl) (by kernel_rfl) (by kernel_rfl) (fun _ _ _ h => h) (Or.inl ⟨by kernel_rfl, fun w' hSw => (by go_simp)⟩) (by assumption) ?_
    try simp only [Act.put, List.getElem_toArray, List.getElem_cons_zero, List.getElem_cons_succ, List.setIfInBounds_toArray, List.set_cons_zero, List.set_cons_succ]
    refine wpAnyH_take (i := 26) (v := (.bool false)) rfl (by kernel_rfl) (by kernel_rfl) (by kernel_rfl) (fun _ _ _ h => h) (Or.inl ⟨by kernel_rfl, fun w' hSw => (by go_simp)⟩) (by assumption) ?_
    try simp only [Act.put, List.getElem_toArray, List.getElem_cons_zero, List.getElem_cons_succ, List.setIfInBounds_toArray, List.set_cons_zero, List.set_cons_succ]
    refine wpAnyH_take (i := 27) (v := (undef)) rfl (by kernel_rfl) (by kernel_rfl) (by kernel_rfl) (fun _ _ _ h => h) (Or.inr ⟨by kernel_rfl, rfl⟩) (by assumption) ?_
    try simp only [Act.put, List.getElem_toArray, List.getElem_cons_zero, List.getElem_cons_succ, List.setIfInBounds_toArray, List.set_cons_zero, List.set_cons_succ]
    refine wpAnyH_take (i := 28) (v := (undef)) rfl (by kernel_rfl) (by kernel_rfl) (by kernel_rfl) (fun _ _ _ h => h) (Or.inr ⟨by kernel_rfl, rfl⟩) (by assumption) ?_
    try simp only [Act.put, List.getElem_toArray, List.getElem_cons_zero, List.getElem_cons_succ, List.setIfInBounds_toArray, List.set_cons_zero, List.set_cons_succ]
    refine wpAnyH_take (i := 29) (v := (undef)) rfl (by kernel_rfl) (by kernel_rfl) (by kernel_rfl) (fun _ _ _ h => h) (Or.inr ⟨by kernel_rfl, rfl⟩) (by assumption) ?_
    try simp only [Act.put, List.getElem_toArray, List.getElem_cons_zero, List.getElem_cons_succ, List.setIfInBounds_toArray, List.set_cons_zero, List.set_cons_succ]
    refine wpAnyH_take (i := 30) (v := (undef)) rfl (by kernel_rfl) (by kernel_rfl) (by kernel_rfl) (fun _ _ _ h => h) (Or.inr ⟨by kernel_rfl, rfl⟩) (by assumption) ?_
    try simp only [Act.put, List.getElem_toArray, List.getElem_cons_zero, List.getElem_cons_succ, List.setIfInBounds_toArray, List.set_cons_zero, List.set_cons_succ]
    refine wpAnyH_take (i := 31) (v := (.bool false)) rfl (by kernel_rfl) (by kernel_rfl) (by kernel_rfl) (fun _ _ _ h => h) (Or.inl ⟨by kernel_rfl, fun w' hSw => (by go_simp)⟩) (by assumption) ?_
    try simp only [Act.put, List.getElem_toArray, List.getElem_cons_zero, List.getElem_cons_succ, List.setIfInBounds_toArray, List.set_cons_zero, List.set_cons_succ]
    refine wpAnyH_take (i := 32) (v := (.bool false)) rfl (by kernel_rfl) (by kernel_rfl) (by kernel_rfl) (fun _ _ _ h => h) (Or.inl ⟨by kernel_rfl, fun w' hSw => (by go_simp)⟩) (by assumption) ?_
    try simp only [Act.put, List.getElem_toArray, List.getElem_cons_zero, List.getElem_cons_succ, List.setIfInBounds_toArray, List.set_cons_zero, List.set_cons_succ]
    refine wpAnyH_done (by kernel_rfl) ?_ _
  case' inr =>
    have hdn : (d != -c) = false := by simpa using hd2
    have hcb : (c == 2) = false := by simpa using hc2
    have hcn : (c != 2) = true := by simpa using hc2
    have hwr : IntKind.i64.wrap (0 - c) = -c := by rw [IntKind.wrap_i64]; omega
    have hwr2 : IntKind.i64.wrap (-c) = -c := by rw [IntKind.wrap_i64]; omega
    have HCC : Hid (c = 2 ∨ c ≠ 2) := .inr hc2
    clear hc2 hd2 hc0 hc1
    refine wp_region_held_drew (S := fun W => W.heap[X]? = some (.cells [.int .i64 p1, .string t1, .bool g1, .slice a1 b1 c1, .int .i64 s1, .int .i64 m1.k, .int .i64 m1.y, .int .i64 m1.m, .int .i64 m1.d, .int .i64 m1.s, .int .i64 m1.n, .bool m1.hz, .int .i64 m1.z, .int .i64 q1.o, .int .i64 q1.s, .int .i64 q1.n].toArray 40 (0, 0)) ∧ W.heap[Y]? = some (.cells [.int .i64 p2, .string t2, .bool g2, .slice a2 b2 c2, .int .i64 s2, .int .i64 m2.k, .int .i64 m2.y, .int .i64 m2.m, .int .i64 m2.d, .int .i64 m2.s, .int .i64 m2.n, .bool m2.hz, .int .i64 m2.z, .int .i64 q2.o, .int .i64 q2.s, .int .i64 q2.n].toArray 40 (0, 0))) (by kernel_rfl) ⟨hx, hy⟩ (fun hHeld => ?_)
    refine wpAnyH_take (i := 0) (v := (.int .i64 c)) rfl (by kernel_rfl) (by kernel_rfl) (by kernel_rfl) (fun _ _ _ h => h) (Or.inl ⟨by kernel_rfl, fun w' hSw => (by go_simp)⟩) (by assumption) ?_
    try simp only [Act.put, List.getElem_toArray, List.getElem_cons_zero, List.getElem_cons_succ, List.setIfInBounds_toArray, List.set_cons_zero, List.set_cons_succ]
    refine wpAnyH_take (i := 1) (v := (.agg #[.int .i64 p1, .string t1, .bool g1, .slice a1 b1 c1, .int .i64 s1, .int .i64 m1.k, .int .i64 m1.y, .int .i64 m1.m, .int .i64 m1.d, .int .i64 m1.s, .int .i64 m1.n, .bool m1.hz, .int .i64 m1.z, .int .i64 q1.o, .int .i64 q1.s, .int .i64 q1.n])) rfl (by kernel_rfl) (by kernel_rfl) (by kernel_rfl) (fun _ _ _ h => h) (yieldsIf_load_mid (by kernel_rfl) 40 _ rfl X 0 rfl [.int .i64 p1, .string t1, .bool g1, .slice a1 b1 c1, .int .i64 s1, .int .i64 m1.k, .int .i64 m1.y, .int .i64 m1.m, .int .i64 m1.d, .int .i64 m1.s, .int .i64 m1.n, .bool m1.hz, .int .i64 m1.z, .int .i64 q1.o, .int .i64 q1.s, .int .i64 q1.n] _ (fun W hW => rng0 hW.1) Tryz.underlying40 rfl (by kernel_rfl)) (by assumption) ?_
    try simp only [Act.put, List.getElem_toArray, List.getElem_cons_zero, List.getElem_cons_succ, List.setIfInBounds_toArray, List.set_cons_zero, List.set_cons_succ]
    refine wpAnyH_take (i := 3) (v := (.agg #[.int .i64 p2, .string t2, .bool g2, .slice a2 b2 c2, .int .i64 s2, .int .i64 m2.k, .int .i64 m2.y, .int .i64 m2.m, .int .i64 m2.d, .int .i64 m2.s, .int .i64 m2.n, .bool m2.hz, .int .i64 m2.z, .int .i64 q2.o, .int .i64 q2.s, .int .i64 q2.n])) rfl (by kernel_rfl) (by kernel_rfl) (by kernel_rfl) (fun _ _ _ h => h) (yieldsIf_load_mid (by kernel_rfl) 40 _ rfl Y 0 rfl [.int .i64 p2, .string t2, .bool g2, .slice a2 b2 c2, .int .i64 s2, .int .i64 m2.k, .int .i64 m2.y, .int .i64 m2.m, .int .i64 m2.d, .int .i64 m2.s, .int .i64 m2.n, .bool m2.hz, .int .i64 m2.z, .int .i64 q2.o, .int .i64 q2.s, .int .i64 q2.n] _ (fun W hW => rng0 hW.2) Tryz.underlying40 rfl (by kernel_rfl)) (by assumption) ?_
    try simp only [Act.put, List.getElem_toArray, List.getElem_cons_zero, List.getElem_cons_succ, List.setIfInBounds_toArray, List.set_cons_zero, List.set_cons_succ]
    refine wpAnyH_ready (rs := [2]) (by kernel_rfl) (by simp) ?_
    refine AllReadyH.cons rfl (fun K hK => ?_) AllReadyH.nil
    go_simp
    refine Calls.mono (of_l _ _ _ _ _ _ _ _ _ _) ?_
    rintro e w9 ⟨rfl, hb9⟩
    have hbb := HB.out.trans (hb9.mono HB.out.size)
    have hS9 := HK.out _ hbb
    clear HB hHeld
    have HB : Hid _ := hbb
    clear hbb hb9
    go_wp2_with fail
    refine hK.out _ _ hS9 (fun hHeld => ?_)
    clear hK K hS9
    try simp only [Act.put, List.getElem_toArray, List.getElem_cons_zero, List.getElem_cons_succ, List.setIfInBounds_toArray, List.set_cons_zero, List.set_cons_succ]
    refine wpAnyH_ready (rs := [4]) (by kernel_rfl) (by simp) ?_
    refine AllReadyH.cons rfl (fun K hK => ?_) AllReadyH.nil
    go_simp
    refine Calls.mono (of_l _ _ _ _ _ _ _ _ _ _) ?_
    rintro e w9 ⟨rfl, hb9⟩
    have hbb := HB.out.trans (hb9.mono HB.out.size)
    have hS9 := HK.out _ hbb
    clear HB hHeld
    have HB : Hid _ := hbb
    clear hbb hb9
    go_wp2_with fail
    refine hK.out _ _ hS9 (fun hHeld => ?_)
    clear hK K hS9
    try simp only [Act.put, List.getElem_toArray, List.getElem_cons_zero, List.getElem_cons_succ, List.setIfInBounds_toArray, List.set_cons_zero, List.set_cons_succ]
    refine wpAnyH_ready (rs := [5]) (by kernel_rfl) (by simp) ?_
    refine AllReadyH.cons rfl (fun K hK => ?_) AllReadyH.nil
    go_simp
    refine Calls.mono (HR.out _ HB.out) ?_
    rintro e w9 ⟨rfl, hb9⟩
    have hbb := HB.out.trans (hb9.mono HB.out.size)
    have hS9 := HK.out _ hbb
    clear HB hHeld
    have HB : Hid _ := hbb
    clear hbb hb9
    go_wp2_with fail
    refine hK.out _ _ hS9 (fun hHeld => ?_)
    clear hK K hS9
    try simp only [Act.put, List.getElem_toArray, List.getElem_cons_zero, List.getElem_cons_succ, List.setIfInBounds_toArray, List.set_cons_zero, List.set_cons_succ]
    refine wpAnyH_take (i := 6) (v := (.bool false)) rfl (by kernel_rfl) (by kernel_rfl) (by kernel_rfl) (fun _ _ _ h => h) (Or.inl ⟨by kernel_rfl, fun w' hSw => (by go_simp)⟩) (by assumption) ?_
    try simp only [Act.put, List.getElem_toArray, List.getElem_cons_zero, List.getElem_cons_succ, List.setIfInBounds_toArray, List.set_cons_zero, List.set_cons_succ]
    refine wpAnyH_take (i := 7) (v := (.bool false)) rfl (by kernel_rfl) (by kernel_rfl) (by kernel_rfl) (fun _ _ _ h => h) (Or.inl ⟨by kernel_rfl, fun w' hSw => (by go_simp)⟩) (by assumption) ?_
    try simp only [Act.put, List.getElem_toArray, List.getElem_cons_zero, List.getElem_cons_succ, List.setIfInBounds_toArray, List.set_cons_zero, List.set_cons_succ]
    refine wpAnyH_take (i := 8) (v := (.agg #[.int .i64 p1, .string t1, .bool g1, .slice a1 b1 c1, .int .i64 s1, .int .i64 m1.k, .int .i64 m1.y, .int .i64 m1.m, .int .i64 m1.d, .int .i64 m1.s, .int .i64 m1.n, .bool m1.hz, .int .i64 m1.z, .int .i64 q1.o, .int .i64 q1.s, .int .i64 q1.n])) rfl (by kernel_rfl) (by kernel_rfl) (by kernel_rfl) (fun _ _ _ h => h) (yieldsIf_load_mid (by kernel_rfl) 40 _ rfl X 0 rfl [.int .i64 p1, .string t1, .bool g1, .slice a1 b1 c1, .int .i64 s1, .int .i64 m1.k, .int .i64 m1.y, .int .i64 m1.m, .int .i64 m1.d, .int .i64 m1.s, .int .i64 m1.n, .bool m1.hz, .int .i64 m1.z, .int .i64 q1.o, .int .i64 q1.s, .int .i64 q1.n] _ (fun W hW => rng0 hW.1) Tryz.underlying40 rfl (by kernel_rfl)) (by assumption) ?_
    try simp only [Act.put, List.getElem_toArray, List.getElem_cons_zero, List.getElem_cons_succ, List.setIfInBounds_toArray, List.set_cons_zero, List.set_cons_succ]
    refine wpAnyH_take (i := 9) (v := (.agg #[.int .i64 p2, .string t2, .bool g2, .slice a2 b2 c2, .int .i64 s2, .int .i64 m2.k, .int .i64 m2.y, .int .i64 m2.m, .int .i64 m2.d, .int .i64 m2.s, .int .i64 m2.n, .bool m2.hz, .int .i64 m2.z, .int .i64 q2.o, .int .i64 q2.s, .int .i64 q2.n])) rfl (by kernel_rfl) (by kernel_rfl) (by kernel_rfl) (fun _ _ _ h => h) (yieldsIf_load_mid (by kernel_rfl) 40 _ rfl Y 0 rfl [.int .i64 p2, .string t2, .bool g2, .slice a2 b2 c2, .int .i64 s2, .int .i64 m2.k, .int .i64 m2.y, .int .i64 m2.m, .int .i64 m2.d, .int .i64 m2.s, .int .i64 m2.n, .bool m2.hz, .int .i64 m2.z, .int .i64 q2.o, .int .i64 q2.s, .int .i64 q2.n] _ (fun W hW => rng0 hW.2) Tryz.underlying40 rfl (by kernel_rfl)) (by assumption) ?_
    try simp only [Act.put, List.getElem_toArray, List.getElem_cons_zero, List.getElem_cons_succ, List.setIfInBounds_toArray, List.set_cons_zero, List.set_cons_succ]
    refine wpAnyH_take (i := 11) (v := (.int .i64 c)) rfl (by kernel_rfl) (by kernel_rfl) (by kernel_rfl) (fun _ _ _ h => h) (Or.inl ⟨by kernel_rfl, fun w' hSw => (by go_simp)⟩) (by assumption) ?_
    try simp only [Act.put, List.getElem_toArray, List.getElem_cons_zero, List.getElem_cons_succ, List.setIfInBounds_toArray, List.set_cons_zero, List.set_cons_succ]
    refine wpAnyH_take (i := 12) (v := (.bool (c == 0))) rfl (by kernel_rfl) (by kernel_rfl) (by kernel_rfl) (fun _ _ _ h => h) (Or.inl ⟨by kernel_rfl, fun w' hSw => (by go_simp)⟩) (by assumption) ?_
    try simp only [Act.put, List.getElem_toArray, List.getElem_cons_zero, List.getElem_cons_succ, List.setIfInBounds_toArray, List.set_cons_zero, List.set_cons_succ]
    refine wpAnyH_ready (rs := [10]) (by kernel_rfl) (by simp) ?_
    refine AllReadyH.cons rfl (fun K hK => ?_) AllReadyH.nil
    go_simp
    refine Calls.mono (HE.out _ HB.out) ?_
    rintro e w9 ⟨rfl, hb9⟩
    have hbb := HB.out.trans (hb9.mono HB.out.size)
    have hS9 := HK.out _ hbb
    clear HB hHeld
    have HB : Hid _ := hbb
    clear hbb hb9
    go_wp2_with fail
    refine hK.out _ _ hS9 (fun hHeld => ?_)
    clear hK K hS9
    try simp only [Act.put, List.getElem_toArray, List.getElem_cons_zero, List.getElem_cons_succ, List.setIfInBounds_toArray, List.set_cons_zero, List.set_cons_succ]
    refine wpAnyH_take (i := 13) (v := (.bool false)) rfl (by kernel_rfl) (by kernel_rfl) (by kernel_rfl) (fun _ _ _ h => h) (Or.inl ⟨by kernel_rfl, fun w' hSw => (by go_simp)⟩) (by assumption) ?_
    try simp only [Act.put, List.getElem_toArray, List.getElem_cons_zero, List.getElem_cons_succ, List.setIfInBounds_toArray, List.set_cons_zero, List.set_cons_succ]
    refine wpAnyH_take (i := 14) (v := (.bool false)) rfl (by kernel_rfl) (by kernel_rfl) (by kernel_rfl) (fun _ _ _ h => h) (Or.inl ⟨by kernel_rfl, fun w' hSw => (by go_simp)⟩) (by assumption) ?_
    try simp only [Act.put, List.getElem_toArray, List.getElem_cons_zero, List.getElem_cons_succ, List.setIfInBounds_toArray, List.set_cons_zero, List.set_cons_succ]
    refine wpAnyH_take (i := 15) (v := (.bool false)) rfl (by kernel_rfl) (by kernel_rfl) (by kernel_rfl) (fun _ _ _ h => h) (Or.inl ⟨by kernel_rfl, fun w' hSw => (by go_simp)⟩) (by assumption) ?_
    try simp only [Act.put, List.getElem_toArray, List.getElem_cons_zero, List.getElem_cons_succ, List.setIfInBounds_toArray, List.set_cons_zero, List.set_cons_succ]
    refine wpAnyH_take (i := 16) (v := (.int .i64 c)) rfl (by kernel_rfl) (by kernel_rfl) (by kernel_rfl) (fun _ _ _ h => h) (Or.inl ⟨by kernel_rfl, fun w' hSw => (by go_simp)⟩) (by assumption) ?_
    try simp only [Act.put, List.getElem_toArray, List.getElem_cons_zero, List.getElem_cons_succ, List.setIfInBounds_toArray, List.set_cons_zero, List.set_cons_succ]
    refine wpAnyH_take (i := 17) (v := (.bool false)) rfl (by kernel_rfl) (by kernel_rfl) (by kernel_rfl) (fun _ _ _ h => h) (Or.inl ⟨by kernel_rfl, fun w' hSw => (by go_simp)⟩) (by assumption) ?_
    try simp only [Act.put, List.getElem_toArray, List.getElem_cons_zero, List.getElem_cons_succ, List.setIfInBounds_toArray, List.set_cons_zero, List.set_cons_succ]
    refine wpAnyH_take (i := 18) (v := (.bool false)) rfl (by kernel_rfl) (by kernel_rfl) (by kernel_rfl) (fun _ _ _ h => h) (Or.inl ⟨by kernel_rfl, fun w' hSw => (by go_simp)⟩) (by assumption) ?_
    try simp only [Act.put, List.getElem_toArray, List.getElem_cons_zero, List.getElem_cons_succ, List.setIfInBounds_toArray, List.set_cons_zero, List.set_cons_succ]
    refine wpAnyH_take (i := 19) (v := (undef)) rfl (by kernel_rfl) (by kernel_rfl) (by kernel_rfl) (fun _ _ _ h => h) (Or.inr ⟨by kernel_rfl, rfl⟩) (by assumption) ?_
    try simp only [Act.put, List.getElem_toArray, List.getElem_cons_zero, List.getElem_cons_succ, List.setIfInBounds_toArray, List.set_cons_zero, List.set_cons_succ]
    refine wpAnyH_take (i := 20) (v := (undef)) rfl (by kernel_rfl) (by kernel_rfl) (by kernel_rfl) (fun _ _ _ h => h) (Or.inr ⟨by kernel_rfl, rfl⟩) (by assumption) ?_
    try simp only [Act.put, List.getElem_toArray, List.getElem_cons_zero, List.getElem_cons_succ, List.setIfInBounds_toArray, List.set_cons_zero, List.set_cons_succ]
    refine wpAnyH_take (i := 21) (v := (.bool false)) rfl (by kernel_rfl) (by kernel_rfl) (by kernel_rfl) (fun _ _ _ h => h) (Or.inl ⟨by kernel_rfl, fun w' hSw => (by go_simp)⟩) (by assumption) ?_
    try simp only [Act.put, List.getElem_toArray, List.getElem_cons_zero, List.getElem_cons_succ, List.setIfInBounds_toArray, List.set_cons_zero, List.set_cons_succ]
    refine wpAnyH_take (i := 22) (v := (.bool false)) rfl (by kernel_rfl) (by kernel_rfl) (by kernel_rfl) (fun _ _ _ h => h) (Or.inl ⟨by kernel_rfl, fun w' hSw => (by go_simp)⟩) (by assumption) ?_
    try simp only [Act.put, List.getElem_toArray, List.getElem_cons_zero, List.getElem_cons_succ, List.setIfInBounds_toArray, List.set_cons_zero, List.set_cons_succ]
    refine wpAnyH_take (i := 23) (v := (.bool false)) rfl (by kernel_rfl) (by kernel_rfl) (by kernel_rfl) (fun _ _ _ h => h) (Or.inl ⟨by kernel_rfl, fun w' hSw => (by go_simp)⟩) (by assumption) ?_
    try simp only [Act.put, List.getElem_toArray, List.getElem_cons_zero, List.getElem_cons_succ, List.setIfInBounds_toArray, List.set_cons_zero, List.set_cons_succ]
    refine wpAnyH_take (i := 24) (v := (.int .i64 c)) rfl (by kernel_rfl) (by kernel_rfl) (by kernel_rfl) (fun _ _ _ h => h) (Or.inl ⟨by kernel_rfl, fun w' hSw => (by go_simp)⟩) (by assumption) ?_
    try simp only [Act.put, List.getElem_toArray, List.getElem_cons_zero, List.getElem_cons_succ, List.setIfInBounds_toArray, List.set_cons_zero, List.set_cons_succ]
    refine wpAnyH_take (i := 25) (v := (.bool true)) rfl (by kernel_rfl) (by kernel_rfl) (by kernel_rfl) (fun _ _ _ h => h) (Or.inl ⟨by kernel_rfl, fun w' hSw => (by go_simp)⟩) (by assumption) ?_
    try simp only [Act.put, List.getElem_toArray, List.getElem_cons_zero, List.getElem_cons_succ, List.setIfInBounds_toArray, List.set_cons_zero, List.set_cons_succ]
    refine wpAnyH_take (i := 26) (v := (.bool true)) rfl (by kernel_rfl) (by kernel_rfl) (by kernel_rfl) (fun _ _ _ h => h) (Or.inl ⟨by kernel_rfl, fun w' hSw => (by go_simp)⟩) (by assumption) ?_
    try simp only [Act.put, List.getElem_toArray, List.getElem_cons_zero, List.getElem_cons_succ, List.setIfInBounds_toArray, List.set_cons_zero, List.set_cons_succ]
    refine wpAnyH_take (i := 27) (v := (.int .i64 d)) rfl (by kernel_rfl) (by kernel_rfl) (by kernel_rfl) (fun _ _ _ h => h) (Or.inl ⟨by kernel_rfl, fun w' hSw => (by go_simp)⟩) (by assumption) ?_
    try simp only [Act.put, List.getElem_toArray, List.getElem_cons_zero, List.getElem_cons_succ, List.setIfInBounds_toArray, List.set_cons_zero, List.set_cons_succ]
    refine wpAnyH_take (i := 28) (v := (.int .i64 c)) rfl (by kernel_rfl) (by kernel_rfl) (by kernel_rfl) (fun _ _ _ h => h) (Or.inl ⟨by kernel_rfl, fun w' hSw => (by go_simp)⟩) (by assumption) ?_
    try simp only [Act.put, List.getElem_toArray, List.getElem_cons_zero, List.getElem_cons_succ, List.setIfInBounds_toArray, List.set_cons_zero, List.set_cons_succ]
    refine wpAnyH_take (i := 29) (v := (.int .i64 (-c))) rfl (by kernel_rfl) (by kernel_rfl) (by kernel_rfl) (fun _ _ _ h => h) (Or.inl ⟨by kernel_rfl, fun w' hSw => (by go_simp)⟩) (by assumption) ?_
    try simp only [Act.put, List.getElem_toArray, List.getElem_cons_zero, List.getElem_cons_succ, List.setIfInBounds_toArray, List.set_cons_zero, List.set_cons_succ]
    refine wpAnyH_take (i := 30) (v := (.bool false)) rfl (by kernel_rfl) (by kernel_rfl) (by kernel_rfl) (fun _ _ _ h => h) (Or.inl ⟨by kernel_rfl, fun w' hSw => (by go_simp)⟩) (by assumption) ?_
    try simp only [Act.put, List.getElem_toArray, List.getElem_cons_zero, List.getElem_cons_succ, List.setIfInBounds_toArray, List.set_cons_zero, List.set_cons_succ]
    refine wpAnyH_take (i := 31) (v := (.bool false)) rfl (by kernel_rfl) (by kernel_rfl) (by kernel_rfl) (fun _ _ _ h => h) (Or.inl ⟨by kernel_rfl, fun w' hSw => (by go_simp)⟩) (by assumption) ?_
    try simp only [Act.put, List.getElem_toArray, List.getElem_cons_zero, List.getElem_cons_succ, List.setIfInBounds_toArray, List.set_cons_zero, List.set_cons_succ]
    refine wpAnyH_take (i := 32) (v := (.bool false)) rfl (by kernel_rfl) (by kernel_rfl) (by kernel_rfl) (fun _ _ _ h => h) (Or.inl ⟨by kernel_rfl, fun w' hSw => (by go_simp)⟩) (by assumption) ?_
    try simp only [Act.put, List.getElem_toArray, List.getElem_cons_zero, List.getElem_cons_succ, List.setIfInBounds_toArray, List.set_cons_zero, List.set_cons_succ]
    refine wpAnyH_done (by kernel_rfl) ?_ _
  all_goals
    obtain ⟨hx, hy⟩ := hHeld
    have x0 : w9.cell? ⟨X, 0, none⟩ = some (.int .i64 p1) := row_cell hx
    have y0 : w9.cell? ⟨Y, 0, none⟩ = some (.int .i64 p2) := row_cell hy
    obtain ⟨aa, ca, heq1, hbt1⟩ := HREST.out.1
    obtain ⟨ab, cb2, heq2, hbt2⟩ := HREST.out.2.1
    obtain ⟨hp1, ht1, hg1, ha1, hb1, hcc1, hs1⟩ := vl_inj heq1
    obtain ⟨hp2, ht2, hg2, ha2, hb2, hcc2, hs2⟩ := vl_inj heq2
    clear heq1 heq2
    by_cases hpp : p1 = p2
    case neg =>
      have hne : (p1 != p2) = true := by simpa using hpp
      have hq : (p1 == 10) = false ∨ ((p1 == 10) = true ∧ (p2 == 10) = false) := by
        by_cases q : p1 = 10
        · right; exact ⟨by simpa using q, by simp; omega⟩
        · left; simpa using q
      clear hp1 ht1 hg1 ha1 hb1 hcc1 hs1 hp2 ht2 hg2 ha2 hb2 hcc2 hs2 hbt1 hbt2 hpp
      rcases hq with hq1 | ⟨hq1, hq2⟩
      all_goals
        go_upto_region 15 with fail
        clear x0 y0
        have HB1 : Hid _ := HB.out
        clear HB
        have HB : Hid (Below V.heap.size V w9.drew) := HB1.out.trans ((Dc.Below.drewN' 1).mono HB1.out.size)
        refine wp_region_held_drew (S := fun W => W.heap[X]? = some (.cells [.int .i64 p1, .string t1, .bool g1, .slice a1 b1 c1, .int .i64 s1, .int .i64 m1.k, .int .i64 m1.y, .int .i64 m1.m, .int .i64 m1.d, .int .i64 m1.s, .int .i64 m1.n, .bool m1.hz, .int .i64 m1.z, .int .i64 q1.o, .int .i64 q1.s, .int .i64 q1.n].toArray 40 (0, 0)) ∧ W.heap[Y]? = some (.cells [.int .i64 p2, .string t2, .bool g2, .slice a2 b2 c2, .int .i64 s2, .int .i64 m2.k, .int .i64 m2.y, .int .i64 m2.m, .int .i64 m2.d, .int .i64 m2.s, .int .i64 m2.n, .bool m2.hz, .int .i64 m2.z, .int .i64 q2.o, .int .i64 q2.s, .int .i64 q2.n].toArray 40 (0, 0))) (by kernel_rfl) ⟨hx, hy⟩ (fun hHeld => ?_)
        refine wpAnyH_take (i := 0) (v := (.pointer (some ⟨X, 0, none⟩))) rfl (by kernel_rfl) (by kernel_rfl) (by kernel_rfl) (fun _ _ _ h => h) (Or.inl ⟨by kernel_rfl, fun w' hSw => (by go_simp)⟩) (by assumption) ?_
        try simp only [Act.put, List.getElem_toArray, List.getElem_cons_zero, List.getElem_cons_succ, List.setIfInBounds_toArray, List.set_cons_zero, List.set_cons_succ]
        refine wpAnyH_take (i := 1) (v := (.int .i64 p1)) rfl (by kernel_rfl) (by kernel_rfl) (by kernel_rfl) (fun _ _ _ h => h) (Or.inl ⟨by kernel_rfl, fun w' hSw => (by have hc : w'.cell? ⟨X, 0, none⟩ = some (.int .i64 p1) := row_cell hSw.1; go_simp)⟩) (by assumption) ?_
        try simp only [Act.put, List.getElem_toArray, List.getElem_cons_zero, List.getElem_cons_succ, List.setIfInBounds_toArray, List.set_cons_zero, List.set_cons_succ]
        refine wpAnyH_take (i := 2) (v := (.pointer (some ⟨Y, 0, none⟩))) rfl (by kernel_rfl) (by kernel_rfl) (by kernel_rfl) (fun _ _ _ h => h) (Or.inl ⟨by kernel_rfl, fun w' hSw => (by go_simp)⟩) (by assumption) ?_
        try simp only [Act.put, List.getElem_toArray, List.getElem_cons_zero, List.getElem_cons_succ, List.setIfInBounds_toArray, List.set_cons_zero, List.set_cons_succ]
        refine wpAnyH_take (i := 3) (v := (.int .i64 p2)) rfl (by kernel_rfl) (by kernel_rfl) (by kernel_rfl) (fun _ _ _ h => h) (Or.inl ⟨by kernel_rfl, fun w' hSw => (by have hc : w'.cell? ⟨Y, 0, none⟩ = some (.int .i64 p2) := row_cell hSw.2; go_simp)⟩) (by assumption) ?_
        try simp only [Act.put, List.getElem_toArray, List.getElem_cons_zero, List.getElem_cons_succ, List.setIfInBounds_toArray, List.set_cons_zero, List.set_cons_succ]
        refine wpAnyH_take (i := 4) (v := (.bool true)) rfl (by kernel_rfl) (by kernel_rfl) (by kernel_rfl) (fun _ _ _ h => h) (Or.inl ⟨by kernel_rfl, fun w' hSw => (by go_simp)⟩) (by assumption) ?_
        try simp only [Act.put, List.getElem_toArray, List.getElem_cons_zero, List.getElem_cons_succ, List.setIfInBounds_toArray, List.set_cons_zero, List.set_cons_succ]
        refine wpAnyH_take (i := 5) (v := (.bool true)) rfl (by kernel_rfl) (by kernel_rfl) (by kernel_rfl) (fun _ _ _ h => h) (Or.inl ⟨by kernel_rfl, fun w' hSw => (by go_simp)⟩) (by assumption) ?_
        try simp only [Act.put, List.getElem_toArray, List.getElem_cons_zero, List.getElem_cons_succ, List.setIfInBounds_toArray, List.set_cons_zero, List.set_cons_succ]
        refine wpAnyH_take (i := 6) (v := (undef)) rfl (by kernel_rfl) (by kernel_rfl) (by kernel_rfl) (fun _ _ _ h => h) (Or.inr ⟨by kernel_rfl, rfl⟩) (by assumption) ?_
        try simp only [Act.put, List.getElem_toArray, List.getElem_cons_zero, List.getElem_cons_succ, List.setIfInBounds_toArray, List.set_cons_zero, List.set_cons_succ]
        refine wpAnyH_take (i := 7) (v := (undef)) rfl (by kernel_rfl) (by kernel_rfl) (by kernel_rfl) (fun _ _ _ h => h) (Or.inr ⟨by kernel_rfl, rfl⟩) (by assumption) ?_
        try simp only [Act.put, List.getElem_toArray, List.getElem_cons_zero, List.getElem_cons_succ, List.setIfInBounds_toArray, List.set_cons_zero, List.set_cons_succ]
        refine wpAnyH_take (i := 8) (v := (undef)) rfl (by kernel_rfl) (by kernel_rfl) (by kernel_rfl) (fun _ _ _ h => h) (Or.inr ⟨by kernel_rfl, rfl⟩) (by assumption) ?_
        try simp only [Act.put, List.getElem_toArray, List.getElem_cons_zero, List.getElem_cons_succ, List.setIfInBounds_toArray, List.set_cons_zero, List.set_cons_succ]
        refine wpAnyH_take (i := 9) (v := (.bool true)) rfl (by kernel_rfl) (by kernel_rfl) (by kernel_rfl) (fun _ _ _ h => h) (Or.inl ⟨by kernel_rfl, fun w' hSw => (by go_simp)⟩) (by assumption) ?_
        try simp only [Act.put, List.getElem_toArray, List.getElem_cons_zero, List.getElem_cons_succ, List.setIfInBounds_toArray, List.set_cons_zero, List.set_cons_succ]
        refine wpAnyH_take (i := 10) (v := (.bool true)) rfl (by kernel_rfl) (by kernel_rfl) (by kernel_rfl) (fun _ _ _ h => h) (Or.inl ⟨by kernel_rfl, fun w' hSw => (by go_simp)⟩) (by assumption) ?_
        try simp only [Act.put, List.getElem_toArray, List.getElem_cons_zero, List.getElem_cons_succ, List.setIfInBounds_toArray, List.set_cons_zero, List.set_cons_succ]
        refine wpAnyH_take (i := 11) (v := (undef)) rfl (by kernel_rfl) (by kernel_rfl) (by kernel_rfl) (fun _ _ _ h => h) (Or.inr ⟨by kernel_rfl, rfl⟩) (by assumption) ?_
        try simp only [Act.put, List.getElem_toArray, List.getElem_cons_zero, List.getElem_cons_succ, List.setIfInBounds_toArray, List.set_cons_zero, List.set_cons_succ]
        refine wpAnyH_take (i := 12) (v := (undef)) rfl (by kernel_rfl) (by kernel_rfl) (by kernel_rfl) (fun _ _ _ h => h) (Or.inr ⟨by kernel_rfl, rfl⟩) (by assumption) ?_
        try simp only [Act.put, List.getElem_toArray, List.getElem_cons_zero, List.getElem_cons_succ, List.setIfInBounds_toArray, List.set_cons_zero, List.set_cons_succ]
        refine wpAnyH_take (i := 13) (v := (undef)) rfl (by kernel_rfl) (by kernel_rfl) (by kernel_rfl) (fun _ _ _ h => h) (Or.inr ⟨by kernel_rfl, rfl⟩) (by assumption) ?_
        try simp only [Act.put, List.getElem_toArray, List.getElem_cons_zero, List.getElem_cons_succ, List.setIfInBounds_toArray, List.set_cons_zero, List.set_cons_succ]
        refine wpAnyH_take (i := 14) (v := (undef)) rfl (by kernel_rfl) (by kernel_rfl) (by kernel_rfl) (fun _ _ _ h => h) (Or.inr ⟨by kernel_rfl, rfl⟩) (by assumption) ?_
        try simp only [Act.put, List.getElem_toArray, List.getElem_cons_zero, List.getElem_cons_succ, List.setIfInBounds_toArray, List.set_cons_zero, List.set_cons_succ]
        refine wpAnyH_take (i := 15) (v := (undef)) rfl (by kernel_rfl) (by kernel_rfl) (by kernel_rfl) (fun _ _ _ h => h) (Or.inr ⟨by kernel_rfl, rfl⟩) (by assumption) ?_
        try simp only [Act.put, List.getElem_toArray, List.getElem_cons_zero, List.getElem_cons_succ, List.setIfInBounds_toArray, List.set_cons_zero, List.set_cons_succ]
        refine wpAnyH_take (i := 16) (v := (undef)) rfl (by kernel_rfl) (by kernel_rfl) (by kernel_rfl) (fun _ _ _ h => h) (Or.inr ⟨by kernel_rfl, rfl⟩) (by assumption) ?_
        try simp only [Act.put, List.getElem_toArray, List.getElem_cons_zero, List.getElem_cons_succ, List.setIfInBounds_toArray, List.set_cons_zero, List.set_cons_succ]
        refine wpAnyH_take (i := 17) (v := (undef)) rfl (by kernel_rfl) (by kernel_rfl) (by kernel_rfl) (fun _ _ _ h => h) (Or.inr ⟨by kernel_rfl, rfl⟩) (by assumption) ?_
        try simp only [Act.put, List.getElem_toArray, List.getElem_cons_zero, List.getElem_cons_succ, List.setIfInBounds_toArray, List.set_cons_zero, List.set_cons_succ]
        refine wpAnyH_take (i := 18) (v := (undef)) rfl (by kernel_rfl) (by kernel_rfl) (by kernel_rfl) (fun _ _ _ h => h) (Or.inr ⟨by kernel_rfl, rfl⟩) (by assumption) ?_
        try simp only [Act.put, List.getElem_toArray, List.getElem_cons_zero, List.getElem_cons_succ, List.setIfInBounds_toArray, List.set_cons_zero, List.set_cons_succ]
        refine wpAnyH_take (i := 19) (v := (.bool true)) rfl (by kernel_rfl) (by kernel_rfl) (by kernel_rfl) (fun _ _ _ h => h) (Or.inl ⟨by kernel_rfl, fun w' hSw => (by go_simp)⟩) (by assumption) ?_
        try simp only [Act.put, List.getElem_toArray, List.getElem_cons_zero, List.getElem_cons_succ, List.setIfInBounds_toArray, List.set_cons_zero, List.set_cons_succ]
        refine wpAnyH_take (i := 20) (v := (.bool true)) rfl (by kernel_rfl) (by kernel_rfl) (by kernel_rfl) (fun _ _ _ h => h) (Or.inl ⟨by kernel_rfl, fun w' hSw => (by go_simp)⟩) (by assumption) ?_
        try simp only [Act.put, List.getElem_toArray, List.getElem_cons_zero, List.getElem_cons_succ, List.setIfInBounds_toArray, List.set_cons_zero, List.set_cons_succ]
        refine wpAnyH_done (by kernel_rfl) ?_ _
        clear hHeld
        go_wp2_with fail
        go_ret
        exact ⟨rfl, HV.out.1.trans (HB.out.mono HV.out.1.size)⟩
    case pos =>
      subst hpp
      have hpq : d1.pr = d2.pr := by rw [← hp1, ← hp2]
      have hnf : (p1 != p1) = false := by simp
      rcases same_c HREST.out.2.2.1 HREST.out.2.2.2.1 hpq with ⟨p, t, t', rfl, rfl⟩ | ⟨n, n', rfl, rfl⟩ | ⟨kk, m, m', rfl, rfl⟩ | ⟨q, q', rfl, rfl⟩
      · have hp19 : p1 = 1 ∨ p1 = 9 := by have := HREST.out.2.2.1; rw [hp1]; exact this
        have ec : (if (t1.toList == t2.toList) = true then (0 : Int) else 2) = c := by
          rw [← HEQ.out, ht1, ht2]
          simp [cmpD, Kd.tx]
        have hce : (c == 0) = (t1.toList == t2.toList) := by
          rw [← ec]
          cases t1.toList == t2.toList <;> rfl
        have hq1 : (p1 == 10) = false := by rcases hp19 with h | h <;> rw [h] <;> rfl
        have hq9 : decide (9 < p1) = false := by rcases hp19 with h | h <;> rw [h] <;> rfl
        have hq9' : ¬ (9 < p1) := by omega
        clear hp1 ht1 hg1 ha1 hb1 hcc1 hs1 hp2 ht2 hg2 ha2 hb2 hcc2 hs2 hbt1 hbt2 hpq ec
        go_upto_region 15 with fail
        clear x0 y0
        have HB1 : Hid _ := HB.out
        clear HB
        have HB : Hid (Below V.heap.size V w9.drew) := HB1.out.trans ((Dc.Below.drewN' 1).mono HB1.out.size)
        refine wp_region_held_drew (S := fun W => W.heap[X]? = some (.cells [.int .i64 p1, .string t1, .bool g1, .slice a1 b1 c1, .int .i64 s1, .int .i64 m1.k, .int .i64 m1.y, .int .i64 m1.m, .int .i64 m1.d, .int .i64 m1.s, .int .i64 m1.n, .bool m1.hz, .int .i64 m1.z, .int .i64 q1.o, .int .i64 q1.s, .int .i64 q1.n].toArray 40 (0, 0)) ∧ W.heap[Y]? = some (.cells [.int .i64 p1, .string t2, .bool g2, .slice a2 b2 c2, .int .i64 s2, .int .i64 m2.k, .int .i64 m2.y, .int .i64 m2.m, .int .i64 m2.d, .int .i64 m2.s, .int .i64 m2.n, .bool m2.hz, .int .i64 m2.z, .int .i64 q2.o, .int .i64 q2.s, .int .i64 q2.n].toArray 40 (0, 0))) (by kernel_rfl) ⟨hx, hy⟩ (fun hHeld => ?_)
        refine wpAnyH_take (i := 0) (v := (.pointer (some ⟨X, 0, none⟩))) rfl (by kernel_rfl) (by kernel_rfl) (by kernel_rfl) (fun _ _ _ h => h) (Or.inl ⟨by kernel_rfl, fun w' hSw => (by go_simp)⟩) (by assumption) ?_
        try simp only [Act.put, List.getElem_toArray, List.getElem_cons_zero, List.getElem_cons_succ, List.setIfInBounds_toArray, List.set_cons_zero, List.set_cons_succ]
        refine wpAnyH_take (i := 1) (v := (.int .i64 p1)) rfl (by kernel_rfl) (by kernel_rfl) (by kernel_rfl) (fun _ _ _ h => h) (Or.inl ⟨by kernel_rfl, fun w' hSw => (by have hc : w'.cell? ⟨X, 0, none⟩ = some (.int .i64 p1) := row_cell hSw.1; go_simp)⟩) (by assumption) ?_
        try simp only [Act.put, List.getElem_toArray, List.getElem_cons_zero, List.getElem_cons_succ, List.setIfInBounds_toArray, List.set_cons_zero, List.set_cons_succ]
        refine wpAnyH_take (i := 2) (v := (.pointer (some ⟨Y, 0, none⟩))) rfl (by kernel_rfl) (by kernel_rfl) (by kernel_rfl) (fun _ _ _ h => h) (Or.inl ⟨by kernel_rfl, fun w' hSw => (by go_simp)⟩) (by assumption) ?_
        try simp only [Act.put, List.getElem_toArray, List.getElem_cons_zero, List.getElem_cons_succ, List.setIfInBounds_toArray, List.set_cons_zero, List.set_cons_succ]
        refine wpAnyH_take (i := 3) (v := (.int .i64 p1)) rfl (by kernel_rfl) (by kernel_rfl) (by kernel_rfl) (fun _ _ _ h => h) (Or.inl ⟨by kernel_rfl, fun w' hSw => (by have hc : w'.cell? ⟨Y, 0, none⟩ = some (.int .i64 p1) := row_cell hSw.2; go_simp)⟩) (by assumption) ?_
        try simp only [Act.put, List.getElem_toArray, List.getElem_cons_zero, List.getElem_cons_succ, List.setIfInBounds_toArray, List.set_cons_zero, List.set_cons_succ]
        refine wpAnyH_take (i := 4) (v := (.bool false)) rfl (by kernel_rfl) (by kernel_rfl) (by kernel_rfl) (fun _ _ _ h => h) (Or.inl ⟨by kernel_rfl, fun w' hSw => (by go_simp)⟩) (by assumption) ?_
        try simp only [Act.put, List.getElem_toArray, List.getElem_cons_zero, List.getElem_cons_succ, List.setIfInBounds_toArray, List.set_cons_zero, List.set_cons_succ]
        refine wpAnyH_take (i := 5) (v := (.bool false)) rfl (by kernel_rfl) (by kernel_rfl) (by kernel_rfl) (fun _ _ _ h => h) (Or.inl ⟨by kernel_rfl, fun w' hSw => (by go_simp)⟩) (by assumption) ?_
        try simp only [Act.put, List.getElem_toArray, List.getElem_cons_zero, List.getElem_cons_succ, List.setIfInBounds_toArray, List.set_cons_zero, List.set_cons_succ]
        refine wpAnyH_take (i := 6) (v := (.pointer (some ⟨X, 0, none⟩))) rfl (by kernel_rfl) (by kernel_rfl) (by kernel_rfl) (fun _ _ _ h => h) (Or.inl ⟨by kernel_rfl, fun w' hSw => (by go_simp)⟩) (by assumption) ?_
        try simp only [Act.put, List.getElem_toArray, List.getElem_cons_zero, List.getElem_cons_succ, List.setIfInBounds_toArray, List.set_cons_zero, List.set_cons_succ]
        refine wpAnyH_take (i := 7) (v := (.int .i64 p1)) rfl (by kernel_rfl) (by kernel_rfl) (by kernel_rfl) (fun _ _ _ h => h) (Or.inl ⟨by kernel_rfl, fun w' hSw => (by have hc : w'.cell? ⟨X, 0, none⟩ = some (.int .i64 p1) := row_cell hSw.1; go_simp)⟩) (by assumption) ?_
        try simp only [Act.put, List.getElem_toArray, List.getElem_cons_zero, List.getElem_cons_succ, List.setIfInBounds_toArray, List.set_cons_zero, List.set_cons_succ]
        refine wpAnyH_take (i := 8) (v := (.bool false)) rfl (by kernel_rfl) (by kernel_rfl) (by kernel_rfl) (fun _ _ _ h => h) (Or.inl ⟨by kernel_rfl, fun w' hSw => (by go_simp)⟩) (by assumption) ?_
        try simp only [Act.put, List.getElem_toArray, List.getElem_cons_zero, List.getElem_cons_succ, List.setIfInBounds_toArray, List.set_cons_zero, List.set_cons_succ]
        refine wpAnyH_take (i := 9) (v := (.bool false)) rfl (by kernel_rfl) (by kernel_rfl) (by kernel_rfl) (fun _ _ _ h => h) (Or.inl ⟨by kernel_rfl, fun w' hSw => (by go_simp)⟩) (by assumption) ?_
        try simp only [Act.put, List.getElem_toArray, List.getElem_cons_zero, List.getElem_cons_succ, List.setIfInBounds_toArray, List.set_cons_zero, List.set_cons_succ]
        refine wpAnyH_take (i := 10) (v := (.bool false)) rfl (by kernel_rfl) (by kernel_rfl) (by kernel_rfl) (fun _ _ _ h => h) (Or.inl ⟨by kernel_rfl, fun w' hSw => (by go_simp)⟩) (by assumption) ?_
        try simp only [Act.put, List.getElem_toArray, List.getElem_cons_zero, List.getElem_cons_succ, List.setIfInBounds_toArray, List.set_cons_zero, List.set_cons_succ]
        refine wpAnyH_take (i := 11) (v := (.int .i64 c)) rfl (by kernel_rfl) (by kernel_rfl) (by kernel_rfl) (fun _ _ _ h => h) (Or.inl ⟨by kernel_rfl, fun w' hSw => (by go_simp)⟩) (by assumption) ?_
        try simp only [Act.put, List.getElem_toArray, List.getElem_cons_zero, List.getElem_cons_succ, List.setIfInBounds_toArray, List.set_cons_zero, List.set_cons_succ]
        refine wpAnyH_take (i := 12) (v := (.bool (c == 0))) rfl (by kernel_rfl) (by kernel_rfl) (by kernel_rfl) (fun _ _ _ h => h) (Or.inl ⟨by kernel_rfl, fun w' hSw => (by go_simp)⟩) (by assumption) ?_
        try simp only [Act.put, List.getElem_toArray, List.getElem_cons_zero, List.getElem_cons_succ, List.setIfInBounds_toArray, List.set_cons_zero, List.set_cons_succ]
        refine wpAnyH_take (i := 13) (v := (.agg #[.int .i64 p1, .string t1, .bool g1, .slice a1 b1 c1, .int .i64 s1, .int .i64 m1.k, .int .i64 m1.y, .int .i64 m1.m, .int .i64 m1.d, .int .i64 m1.s, .int .i64 m1.n, .bool m1.hz, .int .i64 m1.z, .int .i64 q1.o, .int .i64 q1.s, .int .i64 q1.n])) rfl (by kernel_rfl) (by kernel_rfl) (by kernel_rfl) (fun _ _ _ h => h) (yieldsIf_load_mid (by kernel_rfl) 40 _ rfl X 0 rfl [.int .i64 p1, .string t1, .bool g1, .slice a1 b1 c1, .int .i64 s1, .int .i64 m1.k, .int .i64 m1.y, .int .i64 m1.m, .int .i64 m1.d, .int .i64 m1.s, .int .i64 m1.n, .bool m1.hz, .int .i64 m1.z, .int .i64 q1.o, .int .i64 q1.s, .int .i64 q1.n] _ (fun W hW => rng0 hW.1) Tryz.underlying40 rfl (by kernel_rfl)) (by assumption) ?_
        try simp only [Act.put, List.getElem_toArray, List.getElem_cons_zero, List.getElem_cons_succ, List.setIfInBounds_toArray, List.set_cons_zero, List.set_cons_succ]
        refine wpAnyH_take (i := 15) (v := (.agg #[.int .i64 p1, .string t2, .bool g2, .slice a2 b2 c2, .int .i64 s2, .int .i64 m2.k, .int .i64 m2.y, .int .i64 m2.m, .int .i64 m2.d, .int .i64 m2.s, .int .i64 m2.n, .bool m2.hz, .int .i64 m2.z, .int .i64 q2.o, .int .i64 q2.s, .int .i64 q2.n])) rfl (by kernel_rfl) (by kernel_rfl) (by kernel_rfl) (fun _ _ _ h => h) (yieldsIf_load_mid (by kernel_rfl) 40 _ rfl Y 0 rfl [.int .i64 p1, .string t2, .bool g2, .slice a2 b2 c2, .int .i64 s2, .int .i64 m2.k, .int .i64 m2.y, .int .i64 m2.m, .int .i64 m2.d, .int .i64 m2.s, .int .i64 m2.n, .bool m2.hz, .int .i64 m2.z, .int .i64 q2.o, .int .i64 q2.s, .int .i64 q2.n] _ (fun W hW => rng0 hW.2) Tryz.underlying40 rfl (by kernel_rfl)) (by assumption) ?_
        try simp only [Act.put, List.getElem_toArray, List.getElem_cons_zero, List.getElem_cons_succ, List.setIfInBounds_toArray, List.set_cons_zero, List.set_cons_succ]
        refine wpAnyH_ready (rs := [14]) (by kernel_rfl) (by simp) ?_
        refine AllReadyH.cons rfl (fun K hK => ?_) AllReadyH.nil
        go_simp
        refine Calls.mono (textT _ hp19 _ _ _ _ _ _ _ _ _) ?_
        rintro e w9 ⟨rfl, hb9⟩
        have hbb := HB.out.trans (hb9.mono HB.out.size)
        have hS9 := HK.out _ hbb
        clear HB hHeld
        have HB : Hid _ := hbb
        clear hbb hb9
        go_wp2_with fail
        refine hK.out _ _ hS9 (fun hHeld => ?_)
        clear hK K hS9
        try simp only [Act.put, List.getElem_toArray, List.getElem_cons_zero, List.getElem_cons_succ, List.setIfInBounds_toArray, List.set_cons_zero, List.set_cons_succ]
        refine wpAnyH_ready (rs := [16]) (by kernel_rfl) (by simp) ?_
        refine AllReadyH.cons rfl (fun K hK => ?_) AllReadyH.nil
        go_simp
        refine Calls.mono (textT _ hp19 _ _ _ _ _ _ _ _ _) ?_
        rintro e w9 ⟨rfl, hb9⟩
        have hbb := HB.out.trans (hb9.mono HB.out.size)
        have hS9 := HK.out _ hbb
        clear HB hHeld
        have HB : Hid _ := hbb
        clear hbb hb9
        go_wp2_with fail
        refine hK.out _ _ hS9 (fun hHeld => ?_)
        clear hK K hS9
        try simp only [Act.put, List.getElem_toArray, List.getElem_cons_zero, List.getElem_cons_succ, List.setIfInBounds_toArray, List.set_cons_zero, List.set_cons_succ]
        refine wpAnyH_take (i := 17) (v := (.bool (t1.toList == t2.toList))) rfl (by kernel_rfl) (by kernel_rfl) (by kernel_rfl) (fun _ _ _ h => h) (Or.inl ⟨by kernel_rfl, fun w' hSw => (by go_simp)⟩) (by assumption) ?_
        try simp only [Act.put, List.getElem_toArray, List.getElem_cons_zero, List.getElem_cons_succ, List.setIfInBounds_toArray, List.set_cons_zero, List.set_cons_succ]
        refine wpAnyH_take (i := 18) (v := (.bool true)) rfl (by kernel_rfl) (by kernel_rfl) (by kernel_rfl) (fun _ _ _ h => h) (Or.inl ⟨by kernel_rfl, fun w' hSw => (by go_simp)⟩) (by assumption) ?_
        try simp only [Act.put, List.getElem_toArray, List.getElem_cons_zero, List.getElem_cons_succ, List.setIfInBounds_toArray, List.set_cons_zero, List.set_cons_succ]
        refine wpAnyH_take (i := 19) (v := (.bool true)) rfl (by kernel_rfl) (by kernel_rfl) (by kernel_rfl) (fun _ _ _ h => h) (Or.inl ⟨by kernel_rfl, fun w' hSw => (by go_simp)⟩) (by assumption) ?_
        try simp only [Act.put, List.getElem_toArray, List.getElem_cons_zero, List.getElem_cons_succ, List.setIfInBounds_toArray, List.set_cons_zero, List.set_cons_succ]
        refine wpAnyH_take (i := 20) (v := (.bool true)) rfl (by kernel_rfl) (by kernel_rfl) (by kernel_rfl) (fun _ _ _ h => h) (Or.inl ⟨by kernel_rfl, fun w' hSw => (by go_simp)⟩) (by assumption) ?_
        try simp only [Act.put, List.getElem_toArray, List.getElem_cons_zero, List.getElem_cons_succ, List.setIfInBounds_toArray, List.set_cons_zero, List.set_cons_succ]
        refine wpAnyH_done (by kernel_rfl) ?_ _
        clear hHeld
        go_wp2_with fail
        go_ret
        exact ⟨rfl, HV.out.1.trans (HB.out.mono HV.out.1.size)⟩
      · have hk1 := HREST.out.2.2.1
        have hk2 := HREST.out.2.2.2.1
        have hl1 := ps_len HREST.out.2.2.2.2.1
        have hl2 := ps_len HREST.out.2.2.2.2.2
        have hnt := num_txt hk1.1 hk2.1 (by omega) (by omega)
        have hp1' : p1 = 10 := hp1
        have hb1' : b1 = n.2.1.length := hb1
        have hb2' : b2 = n'.2.1.length := hb2
        have hg1' : g1 = n.1 := hg1
        have hg2' : g2 = n'.1 := hg2
        have hs1' : s1 = n.2.2 := hs1
        have hs2' : s2 = n'.2.2 := hs2
        subst hp1'
        subst hb1'
        subst hb2'
        subst hg1'
        subst hg2'
        subst hs1'
        subst hs2'
        subst ha1
        subst ha2
        subst hcc1
        subst hcc2
        have nr1 : Dc.NmR V (.slice a1 n.2.1.length c1) n := ⟨hbt1, hk1.1, hk1.2⟩
        have nr2 : Dc.NmR V (.slice a2 n'.2.1.length c2) n' := ⟨hbt2, hk2.1, hk2.2⟩
        have ec : Dc.cmpS n n' = c := HEQ.out
        rw [ec] at hnt
        have HNC : Hid _ := fun W (hW : Below V.heap.size V W) => Dc.cmp_p (nr1.below hW) (nr2.below hW)
        have HT1 : Hid _ := fun W (hW : Below V.heap.size V W) => textN t1 m1 q1 (nr1.below hW)
        have HT2 : Hid _ := fun W (hW : Below V.heap.size V W) => textN t2 m2 q2 (nr2.below hW)
        rw [ec] at HNC
        generalize Dc.sb (Dc.txS n) = y1 at *
        generalize Dc.sb (Dc.txS n') = y2 at *
        clear hp1 ht1 hg1 hb1 hs1 hp2 ht2 hg2 hb2 hs2 hbt1 hbt2 hpq nr1 nr2 ec hk1 hk2 hl1 hl2
        go_upto_region 14 with fail
        clear x0 y0
        have HB1 : Hid _ := HB.out
        clear HB
        have HB : Hid (Below V.heap.size V w9.drew) := HB1.out.trans ((Dc.Below.drewN' 1).mono HB1.out.size)
        refine wp_region_held_drew (S := fun W => W.heap[X]? = some (.cells [.int .i64 10, .string t1, .bool n.1, .slice a1 n.2.1.length c1, .int .i64 n.2.2, .int .i64 m1.k, .int .i64 m1.y, .int .i64 m1.m, .int .i64 m1.d, .int .i64 m1.s, .int .i64 m1.n, .bool m1.hz, .int .i64 m1.z, .int .i64 q1.o, .int .i64 q1.s, .int .i64 q1.n].toArray 40 (0, 0)) ∧ W.heap[Y]? = some (.cells [.int .i64 10, .string t2, .bool n'.1, .slice a2 n'.2.1.length c2, .int .i64 n'.2.2, .int .i64 m2.k, .int .i64 m2.y, .int .i64 m2.m, .int .i64 m2.d, .int .i64 m2.s, .int .i64 m2.n, .bool m2.hz, .int .i64 m2.z, .int .i64 q2.o, .int .i64 q2.s, .int .i64 q2.n].toArray 40 (0, 0))) (by kernel_rfl) ⟨hx, hy⟩ (fun hHeld => ?_)
        refine wpAnyH_take (i := 0) (v := (.int .i64 c)) rfl (by kernel_rfl) (by kernel_rfl) (by kernel_rfl) (fun _ _ _ h => h) (Or.inl ⟨by kernel_rfl, fun w' hSw => (by go_simp)⟩) (by assumption) ?_
        try simp only [Act.put, List.getElem_toArray, List.getElem_cons_zero, List.getElem_cons_succ, List.setIfInBounds_toArray, List.set_cons_zero, List.set_cons_succ]
        refine wpAnyH_take (i := 1) (v := (.pointer (some ⟨X, 2, none⟩))) rfl (by kernel_rfl) (by kernel_rfl) (by kernel_rfl) (fun _ _ _ h => h) (Or.inl ⟨by kernel_rfl, fun w' hSw => (by go_simp)⟩) (by assumption) ?_
        try simp only [Act.put, List.getElem_toArray, List.getElem_cons_zero, List.getElem_cons_succ, List.setIfInBounds_toArray, List.set_cons_zero, List.set_cons_succ]
        refine wpAnyH_take (i := 2) (v := (.agg #[.bool n.1, .slice a1 n.2.1.length c1, .int .i64 n.2.2])) rfl (by kernel_rfl) (by kernel_rfl) (by kernel_rfl) (fun _ _ _ h => h) (yieldsIf_load_mid (by kernel_rfl) 34 _ rfl X 2 rfl [.bool n.1, .slice a1 n.2.1.length c1, .int .i64 n.2.2] _ (fun W hW => rng2 hW.1) Tryz.underlying34 rfl (by kernel_rfl)) (by assumption) ?_
        try simp only [Act.put, List.getElem_toArray, List.getElem_cons_zero, List.getElem_cons_succ, List.setIfInBounds_toArray, List.set_cons_zero, List.set_cons_succ]
        refine wpAnyH_take (i := 3) (v := (.pointer (some ⟨Y, 2, none⟩))) rfl (by kernel_rfl) (by kernel_rfl) (by kernel_rfl) (fun _ _ _ h => h) (Or.inl ⟨by kernel_rfl, fun w' hSw => (by go_simp)⟩) (by assumption) ?_
        try simp only [Act.put, List.getElem_toArray, List.getElem_cons_zero, List.getElem_cons_succ, List.setIfInBounds_toArray, List.set_cons_zero, List.set_cons_succ]
        refine wpAnyH_take (i := 4) (v := (.agg #[.bool n'.1, .slice a2 n'.2.1.length c2, .int .i64 n'.2.2])) rfl (by kernel_rfl) (by kernel_rfl) (by kernel_rfl) (fun _ _ _ h => h) (yieldsIf_load_mid (by kernel_rfl) 34 _ rfl Y 2 rfl [.bool n'.1, .slice a2 n'.2.1.length c2, .int .i64 n'.2.2] _ (fun W hW => rng2 hW.2) Tryz.underlying34 rfl (by kernel_rfl)) (by assumption) ?_
        try simp only [Act.put, List.getElem_toArray, List.getElem_cons_zero, List.getElem_cons_succ, List.setIfInBounds_toArray, List.set_cons_zero, List.set_cons_succ]
        refine wpAnyH_ready (rs := [5]) (by kernel_rfl) (by simp) ?_
        refine AllReadyH.cons rfl (fun K hK => ?_) AllReadyH.nil
        go_simp
        refine Calls.mono (HNC.out _ HB.out) ?_
        rintro e w9 ⟨rfl, hb9⟩
        have hbb := HB.out.trans (hb9.mono HB.out.size)
        have hS9 := HK.out _ hbb
        clear HB hHeld
        have HB : Hid _ := hbb
        clear hbb hb9
        go_wp2_with fail
        refine hK.out _ _ hS9 (fun hHeld => ?_)
        clear hK K hS9
        try simp only [Act.put, List.getElem_toArray, List.getElem_cons_zero, List.getElem_cons_succ, List.setIfInBounds_toArray, List.set_cons_zero, List.set_cons_succ]
        refine wpAnyH_take (i := 6) (v := (.bool true)) rfl (by kernel_rfl) (by kernel_rfl) (by kernel_rfl) (fun _ _ _ h => h) (Or.inl ⟨by kernel_rfl, fun w' hSw => (by go_simp)⟩) (by assumption) ?_
        try simp only [Act.put, List.getElem_toArray, List.getElem_cons_zero, List.getElem_cons_succ, List.setIfInBounds_toArray, List.set_cons_zero, List.set_cons_succ]
        refine wpAnyH_take (i := 7) (v := (.bool true)) rfl (by kernel_rfl) (by kernel_rfl) (by kernel_rfl) (fun _ _ _ h => h) (Or.inl ⟨by kernel_rfl, fun w' hSw => (by go_simp)⟩) (by assumption) ?_
        try simp only [Act.put, List.getElem_toArray, List.getElem_cons_zero, List.getElem_cons_succ, List.setIfInBounds_toArray, List.set_cons_zero, List.set_cons_succ]
        refine wpAnyH_take (i := 8) (v := (.int .i64 c)) rfl (by kernel_rfl) (by kernel_rfl) (by kernel_rfl) (fun _ _ _ h => h) (Or.inl ⟨by kernel_rfl, fun w' hSw => (by go_simp)⟩) (by assumption) ?_
        try simp only [Act.put, List.getElem_toArray, List.getElem_cons_zero, List.getElem_cons_succ, List.setIfInBounds_toArray, List.set_cons_zero, List.set_cons_succ]
        refine wpAnyH_take (i := 9) (v := (.bool (c == 0))) rfl (by kernel_rfl) (by kernel_rfl) (by kernel_rfl) (fun _ _ _ h => h) (Or.inl ⟨by kernel_rfl, fun w' hSw => (by go_simp)⟩) (by assumption) ?_
        try simp only [Act.put, List.getElem_toArray, List.getElem_cons_zero, List.getElem_cons_succ, List.setIfInBounds_toArray, List.set_cons_zero, List.set_cons_succ]
        refine wpAnyH_take (i := 10) (v := (.agg #[.int .i64 10, .string t1, .bool n.1, .slice a1 n.2.1.length c1, .int .i64 n.2.2, .int .i64 m1.k, .int .i64 m1.y, .int .i64 m1.m, .int .i64 m1.d, .int .i64 m1.s, .int .i64 m1.n, .bool m1.hz, .int .i64 m1.z, .int .i64 q1.o, .int .i64 q1.s, .int .i64 q1.n])) rfl (by kernel_rfl) (by kernel_rfl) (by kernel_rfl) (fun _ _ _ h => h) (yieldsIf_load_mid (by kernel_rfl) 40 _ rfl X 0 rfl [.int .i64 10, .string t1, .bool n.1, .slice a1 n.2.1.length c1, .int .i64 n.2.2, .int .i64 m1.k, .int .i64 m1.y, .int .i64 m1.m, .int .i64 m1.d, .int .i64 m1.s, .int .i64 m1.n, .bool m1.hz, .int .i64 m1.z, .int .i64 q1.o, .int .i64 q1.s, .int .i64 q1.n] _ (fun W hW => rng0 hW.1) Tryz.underlying40 rfl (by kernel_rfl)) (by assumption) ?_
        try simp only [Act.put, List.getElem_toArray, List.getElem_cons_zero, List.getElem_cons_succ, List.setIfInBounds_toArray, List.set_cons_zero, List.set_cons_succ]
        refine wpAnyH_take (i := 12) (v := (.agg #[.int .i64 10, .string t2, .bool n'.1, .slice a2 n'.2.1.length c2, .int .i64 n'.2.2, .int .i64 m2.k, .int .i64 m2.y, .int .i64 m2.m, .int .i64 m2.d, .int .i64 m2.s, .int .i64 m2.n, .bool m2.hz, .int .i64 m2.z, .int .i64 q2.o, .int .i64 q2.s, .int .i64 q2.n])) rfl (by kernel_rfl) (by kernel_rfl) (by kernel_rfl) (fun _ _ _ h => h) (yieldsIf_load_mid (by kernel_rfl) 40 _ rfl Y 0 rfl [.int .i64 10, .string t2, .bool n'.1, .slice a2 n'.2.1.length c2, .int .i64 n'.2.2, .int .i64 m2.k, .int .i64 m2.y, .int .i64 m2.m, .int .i64 m2.d, .int .i64 m2.s, .int .i64 m2.n, .bool m2.hz, .int .i64 m2.z, .int .i64 q2.o, .int .i64 q2.s, .int .i64 q2.n] _ (fun W hW => rng0 hW.2) Tryz.underlying40 rfl (by kernel_rfl)) (by assumption) ?_
        try simp only [Act.put, List.getElem_toArray, List.getElem_cons_zero, List.getElem_cons_succ, List.setIfInBounds_toArray, List.set_cons_zero, List.set_cons_succ]
        refine wpAnyH_ready (rs := [11]) (by kernel_rfl) (by simp) ?_
        refine AllReadyH.cons rfl (fun K hK => ?_) AllReadyH.nil
        go_simp
        refine Calls.mono (HT1.out _ HB.out) ?_
        rintro e w9 ⟨rfl, hb9⟩
        have hbb := HB.out.trans (hb9.mono HB.out.size)
        have hS9 := HK.out _ hbb
        clear HB hHeld
        have HB : Hid _ := hbb
        clear hbb hb9
        go_wp2_with fail
        refine hK.out _ _ hS9 (fun hHeld => ?_)
        clear hK K hS9
        try simp only [Act.put, List.getElem_toArray, List.getElem_cons_zero, List.getElem_cons_succ, List.setIfInBounds_toArray, List.set_cons_zero, List.set_cons_succ]
        refine wpAnyH_ready (rs := [13]) (by kernel_rfl) (by simp) ?_
        refine AllReadyH.cons rfl (fun K hK => ?_) AllReadyH.nil
        go_simp
        refine Calls.mono (HT2.out _ HB.out) ?_
        rintro e w9 ⟨rfl, hb9⟩
        have hbb := HB.out.trans (hb9.mono HB.out.size)
        have hS9 := HK.out _ hbb
        clear HB hHeld
        have HB : Hid _ := hbb
        clear hbb hb9
        go_wp2_with fail
        refine hK.out _ _ hS9 (fun hHeld => ?_)
        clear hK K hS9
        try simp only [Act.put, List.getElem_toArray, List.getElem_cons_zero, List.getElem_cons_succ, List.setIfInBounds_toArray, List.set_cons_zero, List.set_cons_succ]
        refine wpAnyH_take (i := 14) (v := (.bool (y1.toList == y2.toList))) rfl (by kernel_rfl) (by kernel_rfl) (by kernel_rfl) (fun _ _ _ h => h) (Or.inl ⟨by kernel_rfl, fun w' hSw => (by go_simp)⟩) (by assumption) ?_
        try simp only [Act.put, List.getElem_toArray, List.getElem_cons_zero, List.getElem_cons_succ, List.setIfInBounds_toArray, List.set_cons_zero, List.set_cons_succ]
        refine wpAnyH_take (i := 15) (v := (.bool true)) rfl (by kernel_rfl) (by kernel_rfl) (by kernel_rfl) (fun _ _ _ h => h) (Or.inl ⟨by kernel_rfl, fun w' hSw => (by go_simp)⟩) (by assumption) ?_
        try simp only [Act.put, List.getElem_toArray, List.getElem_cons_zero, List.getElem_cons_succ, List.setIfInBounds_toArray, List.set_cons_zero, List.set_cons_succ]
        refine wpAnyH_take (i := 16) (v := (.bool true)) rfl (by kernel_rfl) (by kernel_rfl) (by kernel_rfl) (fun _ _ _ h => h) (Or.inl ⟨by kernel_rfl, fun w' hSw => (by go_simp)⟩) (by assumption) ?_
        try simp only [Act.put, List.getElem_toArray, List.getElem_cons_zero, List.getElem_cons_succ, List.setIfInBounds_toArray, List.set_cons_zero, List.set_cons_succ]
        refine wpAnyH_take (i := 17) (v := (.bool true)) rfl (by kernel_rfl) (by kernel_rfl) (by kernel_rfl) (fun _ _ _ h => h) (Or.inl ⟨by kernel_rfl, fun w' hSw => (by go_simp)⟩) (by assumption) ?_
        try simp only [Act.put, List.getElem_toArray, List.getElem_cons_zero, List.getElem_cons_succ, List.setIfInBounds_toArray, List.set_cons_zero, List.set_cons_succ]
        refine wpAnyH_done (by kernel_rfl) ?_ _
        clear hHeld
        go_wp2_with fail
        go_ret
        exact ⟨rfl, HV.out.1.trans (HB.out.mono HV.out.1.size)⟩
      · have hb24 : 24 ≤ p1 := by have := HREST.out.2.2.1.1; rw [hp1]; exact this
        have hq1 : (p1 == 10) = false := by simp; omega
        have hq9 : decide (9 < p1) = true := by simp; omega
        have hq9' : 9 < p1 := by omega
        clear hp1 ht1 hg1 ha1 hb1 hcc1 hs1 hp2 ht2 hg2 ha2 hb2 hcc2 hs2 hbt1 hbt2 hpq hb24
        go_upto_region 15 with fail
        clear x0 y0
        have HB1 : Hid _ := HB.out
        clear HB
        have HB : Hid (Below V.heap.size V w9.drew) := HB1.out.trans ((Dc.Below.drewN' 1).mono HB1.out.size)
        refine wp_region_held_drew (S := fun W => W.heap[X]? = some (.cells [.int .i64 p1, .string t1, .bool g1, .slice a1 b1 c1, .int .i64 s1, .int .i64 m1.k, .int .i64 m1.y, .int .i64 m1.m, .int .i64 m1.d, .int .i64 m1.s, .int .i64 m1.n, .bool m1.hz, .int .i64 m1.z, .int .i64 q1.o, .int .i64 q1.s, .int .i64 q1.n].toArray 40 (0, 0)) ∧ W.heap[Y]? = some (.cells [.int .i64 p1, .string t2, .bool g2, .slice a2 b2 c2, .int .i64 s2, .int .i64 m2.k, .int .i64 m2.y, .int .i64 m2.m, .int .i64 m2.d, .int .i64 m2.s, .int .i64 m2.n, .bool m2.hz, .int .i64 m2.z, .int .i64 q2.o, .int .i64 q2.s, .int .i64 q2.n].toArray 40 (0, 0))) (by kernel_rfl) ⟨hx, hy⟩ (fun hHeld => ?_)
        refine wpAnyH_take (i := 0) (v := (.pointer (some ⟨X, 0, none⟩))) rfl (by kernel_rfl) (by kernel_rfl) (by kernel_rfl) (fun _ _ _ h => h) (Or.inl ⟨by kernel_rfl, fun w' hSw => (by go_simp)⟩) (by assumption) ?_
        try simp only [Act.put, List.getElem_toArray, List.getElem_cons_zero, List.getElem_cons_succ, List.setIfInBounds_toArray, List.set_cons_zero, List.set_cons_succ]
        refine wpAnyH_take (i := 1) (v := (.int .i64 p1)) rfl (by kernel_rfl) (by kernel_rfl) (by kernel_rfl) (fun _ _ _ h => h) (Or.inl ⟨by kernel_rfl, fun w' hSw => (by have hc : w'.cell? ⟨X, 0, none⟩ = some (.int .i64 p1) := row_cell hSw.1; go_simp)⟩) (by assumption) ?_
        try simp only [Act.put, List.getElem_toArray, List.getElem_cons_zero, List.getElem_cons_succ, List.setIfInBounds_toArray, List.set_cons_zero, List.set_cons_succ]
        refine wpAnyH_take (i := 2) (v := (.pointer (some ⟨Y, 0, none⟩))) rfl (by kernel_rfl) (by kernel_rfl) (by kernel_rfl) (fun _ _ _ h => h) (Or.inl ⟨by kernel_rfl, fun w' hSw => (by go_simp)⟩) (by assumption) ?_
        try simp only [Act.put, List.getElem_toArray, List.getElem_cons_zero, List.getElem_cons_succ, List.setIfInBounds_toArray, List.set_cons_zero, List.set_cons_succ]
        refine wpAnyH_take (i := 3) (v := (.int .i64 p1)) rfl (by kernel_rfl) (by kernel_rfl) (by kernel_rfl) (fun _ _ _ h => h) (Or.inl ⟨by kernel_rfl, fun w' hSw => (by have hc : w'.cell? ⟨Y, 0, none⟩ = some (.int .i64 p1) := row_cell hSw.2; go_simp)⟩) (by assumption) ?_
        try simp only [Act.put, List.getElem_toArray, List.getElem_cons_zero, List.getElem_cons_succ, List.setIfInBounds_toArray, List.set_cons_zero, List.set_cons_succ]
        refine wpAnyH_take (i := 4) (v := (.bool false)) rfl (by kernel_rfl) (by kernel_rfl) (by kernel_rfl) (fun _ _ _ h => h) (Or.inl ⟨by kernel_rfl, fun w' hSw => (by go_simp)⟩) (by assumption) ?_
        try simp only [Act.put, List.getElem_toArray, List.getElem_cons_zero, List.getElem_cons_succ, List.setIfInBounds_toArray, List.set_cons_zero, List.set_cons_succ]
        refine wpAnyH_take (i := 5) (v := (.bool false)) rfl (by kernel_rfl) (by kernel_rfl) (by kernel_rfl) (fun _ _ _ h => h) (Or.inl ⟨by kernel_rfl, fun w' hSw => (by go_simp)⟩) (by assumption) ?_
        try simp only [Act.put, List.getElem_toArray, List.getElem_cons_zero, List.getElem_cons_succ, List.setIfInBounds_toArray, List.set_cons_zero, List.set_cons_succ]
        refine wpAnyH_take (i := 6) (v := (.pointer (some ⟨X, 0, none⟩))) rfl (by kernel_rfl) (by kernel_rfl) (by kernel_rfl) (fun _ _ _ h => h) (Or.inl ⟨by kernel_rfl, fun w' hSw => (by go_simp)⟩) (by assumption) ?_
        try simp only [Act.put, List.getElem_toArray, List.getElem_cons_zero, List.getElem_cons_succ, List.setIfInBounds_toArray, List.set_cons_zero, List.set_cons_succ]
        refine wpAnyH_take (i := 7) (v := (.int .i64 p1)) rfl (by kernel_rfl) (by kernel_rfl) (by kernel_rfl) (fun _ _ _ h => h) (Or.inl ⟨by kernel_rfl, fun w' hSw => (by have hc : w'.cell? ⟨X, 0, none⟩ = some (.int .i64 p1) := row_cell hSw.1; go_simp)⟩) (by assumption) ?_
        try simp only [Act.put, List.getElem_toArray, List.getElem_cons_zero, List.getElem_cons_succ, List.setIfInBounds_toArray, List.set_cons_zero, List.set_cons_succ]
        refine wpAnyH_take (i := 8) (v := (.bool true)) rfl (by kernel_rfl) (by kernel_rfl) (by kernel_rfl) (fun _ _ _ h => h) (Or.inl ⟨by kernel_rfl, fun w' hSw => (by go_simp)⟩) (by assumption) ?_
        try simp only [Act.put, List.getElem_toArray, List.getElem_cons_zero, List.getElem_cons_succ, List.setIfInBounds_toArray, List.set_cons_zero, List.set_cons_succ]
        refine wpAnyH_take (i := 9) (v := (.bool true)) rfl (by kernel_rfl) (by kernel_rfl) (by kernel_rfl) (fun _ _ _ h => h) (Or.inl ⟨by kernel_rfl, fun w' hSw => (by go_simp)⟩) (by assumption) ?_
        try simp only [Act.put, List.getElem_toArray, List.getElem_cons_zero, List.getElem_cons_succ, List.setIfInBounds_toArray, List.set_cons_zero, List.set_cons_succ]
        refine wpAnyH_take (i := 10) (v := (.bool true)) rfl (by kernel_rfl) (by kernel_rfl) (by kernel_rfl) (fun _ _ _ h => h) (Or.inl ⟨by kernel_rfl, fun w' hSw => (by go_simp)⟩) (by assumption) ?_
        try simp only [Act.put, List.getElem_toArray, List.getElem_cons_zero, List.getElem_cons_succ, List.setIfInBounds_toArray, List.set_cons_zero, List.set_cons_succ]
        refine wpAnyH_take (i := 11) (v := (undef)) rfl (by kernel_rfl) (by kernel_rfl) (by kernel_rfl) (fun _ _ _ h => h) (Or.inr ⟨by kernel_rfl, rfl⟩) (by assumption) ?_
        try simp only [Act.put, List.getElem_toArray, List.getElem_cons_zero, List.getElem_cons_succ, List.setIfInBounds_toArray, List.set_cons_zero, List.set_cons_succ]
        refine wpAnyH_take (i := 12) (v := (undef)) rfl (by kernel_rfl) (by kernel_rfl) (by kernel_rfl) (fun _ _ _ h => h) (Or.inr ⟨by kernel_rfl, rfl⟩) (by assumption) ?_
        try simp only [Act.put, List.getElem_toArray, List.getElem_cons_zero, List.getElem_cons_succ, List.setIfInBounds_toArray, List.set_cons_zero, List.set_cons_succ]
        refine wpAnyH_take (i := 13) (v := (undef)) rfl (by kernel_rfl) (by kernel_rfl) (by kernel_rfl) (fun _ _ _ h => h) (Or.inr ⟨by kernel_rfl, rfl⟩) (by assumption) ?_
        try simp only [Act.put, List.getElem_toArray, List.getElem_cons_zero, List.getElem_cons_succ, List.setIfInBounds_toArray, List.set_cons_zero, List.set_cons_succ]
        refine wpAnyH_take (i := 14) (v := (undef)) rfl (by kernel_rfl) (by kernel_rfl) (by kernel_rfl) (fun _ _ _ h => h) (Or.inr ⟨by kernel_rfl, rfl⟩) (by assumption) ?_
        try simp only [Act.put, List.getElem_toArray, List.getElem_cons_zero, List.getElem_cons_succ, List.setIfInBounds_toArray, List.set_cons_zero, List.set_cons_succ]
        refine wpAnyH_take (i := 15) (v := (undef)) rfl (by kernel_rfl) (by kernel_rfl) (by kernel_rfl) (fun _ _ _ h => h) (Or.inr ⟨by kernel_rfl, rfl⟩) (by assumption) ?_
        try simp only [Act.put, List.getElem_toArray, List.getElem_cons_zero, List.getElem_cons_succ, List.setIfInBounds_toArray, List.set_cons_zero, List.set_cons_succ]
        refine wpAnyH_take (i := 16) (v := (undef)) rfl (by kernel_rfl) (by kernel_rfl) (by kernel_rfl) (fun _ _ _ h => h) (Or.inr ⟨by kernel_rfl, rfl⟩) (by assumption) ?_
        try simp only [Act.put, List.getElem_toArray, List.getElem_cons_zero, List.getElem_cons_succ, List.setIfInBounds_toArray, List.set_cons_zero, List.set_cons_succ]
        refine wpAnyH_take (i := 17) (v := (undef)) rfl (by kernel_rfl) (by kernel_rfl) (by kernel_rfl) (fun _ _ _ h => h) (Or.inr ⟨by kernel_rfl, rfl⟩) (by assumption) ?_
        try simp only [Act.put, List.getElem_toArray, List.getElem_cons_zero, List.getElem_cons_succ, List.setIfInBounds_toArray, List.set_cons_zero, List.set_cons_succ]
        refine wpAnyH_take (i := 18) (v := (undef)) rfl (by kernel_rfl) (by kernel_rfl) (by kernel_rfl) (fun _ _ _ h => h) (Or.inr ⟨by kernel_rfl, rfl⟩) (by assumption) ?_
        try simp only [Act.put, List.getElem_toArray, List.getElem_cons_zero, List.getElem_cons_succ, List.setIfInBounds_toArray, List.set_cons_zero, List.set_cons_succ]
        refine wpAnyH_take (i := 19) (v := (.bool true)) rfl (by kernel_rfl) (by kernel_rfl) (by kernel_rfl) (fun _ _ _ h => h) (Or.inl ⟨by kernel_rfl, fun w' hSw => (by go_simp)⟩) (by assumption) ?_
        try simp only [Act.put, List.getElem_toArray, List.getElem_cons_zero, List.getElem_cons_succ, List.setIfInBounds_toArray, List.set_cons_zero, List.set_cons_succ]
        refine wpAnyH_take (i := 20) (v := (.bool true)) rfl (by kernel_rfl) (by kernel_rfl) (by kernel_rfl) (fun _ _ _ h => h) (Or.inl ⟨by kernel_rfl, fun w' hSw => (by go_simp)⟩) (by assumption) ?_
        try simp only [Act.put, List.getElem_toArray, List.getElem_cons_zero, List.getElem_cons_succ, List.setIfInBounds_toArray, List.set_cons_zero, List.set_cons_succ]
        refine wpAnyH_done (by kernel_rfl) ?_ _
        clear hHeld
        go_wp2_with fail
        go_ret
        exact ⟨rfl, HV.out.1.trans (HB.out.mono HV.out.1.size)⟩
      · have hb24 : 24 ≤ p1 := by rw [hp1]; show (24 : Int) ≤ 32; decide
        have hq1 : (p1 == 10) = false := by simp; omega
        have hq9 : decide (9 < p1) = true := by simp; omega
        have hq9' : 9 < p1 := by omega
        clear hp1 ht1 hg1 ha1 hb1 hcc1 hs1 hp2 ht2 hg2 ha2 hb2 hcc2 hs2 hbt1 hbt2 hpq hb24
        go_upto_region 15 with fail
        clear x0 y0
        have HB1 : Hid _ := HB.out
        clear HB
        have HB : Hid (Below V.heap.size V w9.drew) := HB1.out.trans ((Dc.Below.drewN' 1).mono HB1.out.size)
        refine wp_region_held_drew (S := fun W => W.heap[X]? = some (.cells [.int .i64 p1, .string t1, .bool g1, .slice a1 b1 c1, .int .i64 s1, .int .i64 m1.k, .int .i64 m1.y, .int .i64 m1.m, .int .i64 m1.d, .int .i64 m1.s, .int .i64 m1.n, .bool m1.hz, .int .i64 m1.z, .int .i64 q1.o, .int .i64 q1.s, .int .i64 q1.n].toArray 40 (0, 0)) ∧ W.heap[Y]? = some (.cells [.int .i64 p1, .string t2, .bool g2, .slice a2 b2 c2, .int .i64 s2, .int .i64 m2.k, .int .i64 m2.y, .int .i64 m2.m, .int .i64 m2.d, .int .i64 m2.s, .int .i64 m2.n, .bool m2.hz, .int .i64 m2.z, .int .i64 q2.o, .int .i64 q2.s, .int .i64 q2.n].toArray 40 (0, 0))) (by kernel_rfl) ⟨hx, hy⟩ (fun hHeld => ?_)
        refine wpAnyH_take (i := 0) (v := (.pointer (some ⟨X, 0, none⟩))) rfl (by kernel_rfl) (by kernel_rfl) (by kernel_rfl) (fun _ _ _ h => h) (Or.inl ⟨by kernel_rfl, fun w' hSw => (by go_simp)⟩) (by assumption) ?_
        try simp only [Act.put, List.getElem_toArray, List.getElem_cons_zero, List.getElem_cons_succ, List.setIfInBounds_toArray, List.set_cons_zero, List.set_cons_succ]
        refine wpAnyH_take (i := 1) (v := (.int .i64 p1)) rfl (by kernel_rfl) (by kernel_rfl) (by kernel_rfl) (fun _ _ _ h => h) (Or.inl ⟨by kernel_rfl, fun w' hSw => (by have hc : w'.cell? ⟨X, 0, none⟩ = some (.int .i64 p1) := row_cell hSw.1; go_simp)⟩) (by assumption) ?_
        try simp only [Act.put, List.getElem_toArray, List.getElem_cons_zero, List.getElem_cons_succ, List.setIfInBounds_toArray, List.set_cons_zero, List.set_cons_succ]
        refine wpAnyH_take (i := 2) (v := (.pointer (some ⟨Y, 0, none⟩))) rfl (by kernel_rfl) (by kernel_rfl) (by kernel_rfl) (fun _ _ _ h => h) (Or.inl ⟨by kernel_rfl, fun w' hSw => (by go_simp)⟩) (by assumption) ?_
        try simp only [Act.put, List.getElem_toArray, List.getElem_cons_zero, List.getElem_cons_succ, List.setIfInBounds_toArray, List.set_cons_zero, List.set_cons_succ]
        refine wpAnyH_take (i := 3) (v := (.int .i64 p1)) rfl (by kernel_rfl) (by kernel_rfl) (by kernel_rfl) (fun _ _ _ h => h) (Or.inl ⟨by kernel_rfl, fun w' hSw => (by have hc : w'.cell? ⟨Y, 0, none⟩ = some (.int .i64 p1) := row_cell hSw.2; go_simp)⟩) (by assumption) ?_
        try simp only [Act.put, List.getElem_toArray, List.getElem_cons_zero, List.getElem_cons_succ, List.setIfInBounds_toArray, List.set_cons_zero, List.set_cons_succ]
        refine wpAnyH_take (i := 4) (v := (.bool false)) rfl (by kernel_rfl) (by kernel_rfl) (by kernel_rfl) (fun _ _ _ h => h) (Or.inl ⟨by kernel_rfl, fun w' hSw => (by go_simp)⟩) (by assumption) ?_
        try simp only [Act.put, List.getElem_toArray, List.getElem_cons_zero, List.getElem_cons_succ, List.setIfInBounds_toArray, List.set_cons_zero, List.set_cons_succ]
        refine wpAnyH_take (i := 5) (v := (.bool false)) rfl (by kernel_rfl) (by kernel_rfl) (by kernel_rfl) (fun _ _ _ h => h) (Or.inl ⟨by kernel_rfl, fun w' hSw => (by go_simp)⟩) (by assumption) ?_
        try simp only [Act.put, List.getElem_toArray, List.getElem_cons_zero, List.getElem_cons_succ, List.setIfInBounds_toArray, List.set_cons_zero, List.set_cons_succ]
        refine wpAnyH_take (i := 6) (v := (.pointer (some ⟨X, 0, none⟩))) rfl (by kernel_rfl) (by kernel_rfl) (by kernel_rfl) (fun _ _ _ h => h) (Or.inl ⟨by kernel_rfl, fun w' hSw => (by go_simp)⟩) (by assumption) ?_
        try simp only [Act.put, List.getElem_toArray, List.getElem_cons_zero, List.getElem_cons_succ, List.setIfInBounds_toArray, List.set_cons_zero, List.set_cons_succ]
        refine wpAnyH_take (i := 7) (v := (.int .i64 p1)) rfl (by kernel_rfl) (by kernel_rfl) (by kernel_rfl) (fun _ _ _ h => h) (Or.inl ⟨by kernel_rfl, fun w' hSw => (by have hc : w'.cell? ⟨X, 0, none⟩ = some (.int .i64 p1) := row_cell hSw.1; go_simp)⟩) (by assumption) ?_
        try simp only [Act.put, List.getElem_toArray, List.getElem_cons_zero, List.getElem_cons_succ, List.setIfInBounds_toArray, List.set_cons_zero, List.set_cons_succ]
        refine wpAnyH_take (i := 8) (v := (.bool true)) rfl (by kernel_rfl) (by kernel_rfl) (by kernel_rfl) (fun _ _ _ h => h) (Or.inl ⟨by kernel_rfl, fun w' hSw => (by go_simp)⟩) (by assumption) ?_
        try simp only [Act.put, List.getElem_toArray, List.getElem_cons_zero, List.getElem_cons_succ, List.setIfInBounds_toArray, List.set_cons_zero, List.set_cons_succ]
        refine wpAnyH_take (i := 9) (v := (.bool true)) rfl (by kernel_rfl) (by kernel_rfl) (by kernel_rfl) (fun _ _ _ h => h) (Or.inl ⟨by kernel_rfl, fun w' hSw => (by go_simp)⟩) (by assumption) ?_
        try simp only [Act.put, List.getElem_toArray, List.getElem_cons_zero, List.getElem_cons_succ, List.setIfInBounds_toArray, List.set_cons_zero, List.set_cons_succ]
        refine wpAnyH_take (i := 10) (v := (.bool true)) rfl (by kernel_rfl) (by kernel_rfl) (by kernel_rfl) (fun _ _ _ h => h) (Or.inl ⟨by kernel_rfl, fun w' hSw => (by go_simp)⟩) (by assumption) ?_
        try simp only [Act.put, List.getElem_toArray, List.getElem_cons_zero, List.getElem_cons_succ, List.setIfInBounds_toArray, List.set_cons_zero, List.set_cons_succ]
        refine wpAnyH_take (i := 11) (v := (undef)) rfl (by kernel_rfl) (by kernel_rfl) (by kernel_rfl) (fun _ _ _ h => h) (Or.inr ⟨by kernel_rfl, rfl⟩) (by assumption) ?_
        try simp only [Act.put, List.getElem_toArray, List.getElem_cons_zero, List.getElem_cons_succ, List.setIfInBounds_toArray, List.set_cons_zero, List.set_cons_succ]
        refine wpAnyH_take (i := 12) (v := (undef)) rfl (by kernel_rfl) (by kernel_rfl) (by kernel_rfl) (fun _ _ _ h => h) (Or.inr ⟨by kernel_rfl, rfl⟩) (by assumption) ?_
        try simp only [Act.put, List.getElem_toArray, List.getElem_cons_zero, List.getElem_cons_succ, List.setIfInBounds_toArray, List.set_cons_zero, List.set_cons_succ]
        refine wpAnyH_take (i := 13) (v := (undef)) rfl (by kernel_rfl) (by kernel_rfl) (by kernel_rfl) (fun _ _ _ h => h) (Or.inr ⟨by kernel_rfl, rfl⟩) (by assumption) ?_
        try simp only [Act.put, List.getElem_toArray, List.getElem_cons_zero, List.getElem_cons_succ, List.setIfInBounds_toArray, List.set_cons_zero, List.set_cons_succ]
        refine wpAnyH_take (i := 14) (v := (undef)) rfl (by kernel_rfl) (by kernel_rfl) (by kernel_rfl) (fun _ _ _ h => h) (Or.inr ⟨by kernel_rfl, rfl⟩) (by assumption) ?_
        try simp only [Act.put, List.getElem_toArray, List.getElem_cons_zero, List.getElem_cons_succ, List.setIfInBounds_toArray, List.set_cons_zero, List.set_cons_succ]
        refine wpAnyH_take (i := 15) (v := (undef)) rfl (by kernel_rfl) (by kernel_rfl) (by kernel_rfl) (fun _ _ _ h => h) (Or.inr ⟨by kernel_rfl, rfl⟩) (by assumption) ?_
        try simp only [Act.put, List.getElem_toArray, List.getElem_cons_zero, List.getElem_cons_succ, List.setIfInBounds_toArray, List.set_cons_zero, List.set_cons_succ]
        refine wpAnyH_take (i := 16) (v := (undef)) rfl (by kernel_rfl) (by kernel_rfl) (by kernel_rfl) (fun _ _ _ h => h) (Or.inr ⟨by kernel_rfl, rfl⟩) (by assumption) ?_
        try simp only [Act.put, List.getElem_toArray, List.getElem_cons_zero, List.getElem_cons_succ, List.setIfInBounds_toArray, List.set_cons_zero, List.set_cons_succ]
        refine wpAnyH_take (i := 17) (v := (undef)) rfl (by kernel_rfl) (by kernel_rfl) (by kernel_rfl) (fun _ _ _ h => h) (Or.inr ⟨by kernel_rfl, rfl⟩) (by assumption) ?_
        try simp only [Act.put, List.getElem_toArray, List.getElem_cons_zero, List.getElem_cons_succ, List.setIfInBounds_toArray, List.set_cons_zero, List.set_cons_succ]
        refine wpAnyH_take (i := 18) (v := (undef)) rfl (by kernel_rfl) (by kernel_rfl) (by kernel_rfl) (fun _ _ _ h => h) (Or.inr ⟨by kernel_rfl, rfl⟩) (by assumption) ?_
        try simp only [Act.put, List.getElem_toArray, List.getElem_cons_zero, List.getElem_cons_succ, List.setIfInBounds_toArray, List.set_cons_zero, List.set_cons_succ]
        refine wpAnyH_take (i := 19) (v := (.bool true)) rfl (by kernel_rfl) (by kernel_rfl) (by kernel_rfl) (fun _ _ _ h => h) (Or.inl ⟨by kernel_rfl, fun w' hSw => (by go_simp)⟩) (by assumption) ?_
        try simp only [Act.put, List.getElem_toArray, List.getElem_cons_zero, List.getElem_cons_succ, List.setIfInBounds_toArray, List.set_cons_zero, List.set_cons_succ]
        refine wpAnyH_take (i := 20) (v := (.bool true)) rfl (by kernel_rfl) (by kernel_rfl) (by kernel_rfl) (fun _ _ _ h => h) (Or.inl ⟨by kernel_rfl, fun w' hSw => (by go_simp)⟩) (by assumption) ?_
        try simp only [Act.put, List.getElem_toArray, List.getElem_cons_zero, List.getElem_cons_succ, List.setIfInBounds_toArray, List.set_cons_zero, List.set_cons_succ]
        refine wpAnyH_done (by kernel_rfl) ?_ _
        clear hHeld
        go_wp2_with fail
        go_ret
        exact ⟨rfl, HV.out.1.trans (HB.out.mono HV.out.1.size)⟩
end Go.Proofs.YtgaegajcejpmdaaGreatDoor
