/- Joined: HK33, HDcRB. -/
import Derived.Test.YtgaegajcejpmdaaGreatDoorHK32
import Derived.Test.YtgaegajcejpmdaaGreatDoorHJ47
import Derived.Laws.Tables
import Derived.Deep.MidRow
import Derived.Deep.RegionHeld3
import Derived.Deep.DeepCutAuto
import Derived.Test.YtgaegajcejpmdaaGreatDoorHDcB0
import Derived.ProofKit
import Derived.OpenShut
namespace Go.Proofs.YtgaegajcejpmdaaGreatDoor
open Go.RowKit
set_option linter.unusedVariables false
set_option linter.unusedSimpArgs false

theorem parse_about (k : Int) (s b : ByteArray) (w : World) (hs : (b ++ s ++ b).size ≤ 100000) (hk : whS k = 3) (h : Wht (Ch.bl b)) (hw : Lw w) : Calls Tryz.prog 21 #[.int .i64 k, .string (b ++ s ++ b)] w (PqP k s w) := by
  refine (parse_q k (b ++ s ++ b) w hs hw).mono fun e w' q => ?_
  unfold PqP at q ⊢
  rw [er_about hk h, o_about hk h] at q
  exact q
theorem same_self {w : World} {v1 v2 : Value} {d : Kd} (h1 : VlA w v1 d) (h2 : VlA w v2 d) (o1 : KdOk d) : Calls Tryz.prog 26 #[v1, v2] w fun e w' => e = .returned (.bool true) ∧ Below w.heap.size w w' := by
  have h := same_p h1 h2 o1 o1
  rw [cmp_self o1] at h
  exact h
set_option maxRecDepth 100000 in
set_option maxHeartbeats 25600000 in
theorem blanks_s (k : Int) (s : ByteArray) (va : Option Addr) (n vc : Nat) (zs : List Int) (w : World) (hw : Lw w) (hz : Dc.BtR w (.slice va n vc) zs) : Calls Tryz.prog 7 #[.int .i64 k, .string s, .slice va n vc] w fun e w' => e = .returned (.bool true) ∧ Below w.heap.size w w' := by
  obtain ⟨hn, hlc, hcm⟩ := hz.lim
  have hby := hz.byte
  subst hn
  by_cases a1 : 100 < s.size
  · have b1 : (100 : Int) < (s.size : Int) := by omega
    go_enter Tryz.func7, Tryz.ntmps7
    go_wp2_with (first | (go_at_call 8; refine Calls.mono (known_l _ hw) ?_; rintro e w1 ⟨rfl, hb1⟩; have HB1 : Hid _ := hb1; clear hb1) | (go_at_call 17; refine Calls.mono (white_k _ _) ?_; rintro e w2 ⟨rfl, hw2⟩; have hw3 := hw2.symm; clear hw2; subst hw3))
    go_ret
    exact ⟨rfl, HB1.out⟩
  have b1 : ¬ ((100 : Int) < (s.size : Int)) := by omega
  by_cases a2 : 20 < zs.length
  · have b2 : (20 : Int) < (zs.length : Int) := by omega
    go_enter Tryz.func7, Tryz.ntmps7
    go_wp2_with (first | (go_at_call 8; refine Calls.mono (known_l _ hw) ?_; rintro e w1 ⟨rfl, hb1⟩; have HB1 : Hid _ := hb1; clear hb1) | (go_at_call 17; refine Calls.mono (white_k _ _) ?_; rintro e w2 ⟨rfl, hw2⟩; have hw3 := hw2.symm; clear hw2; subst hw3))
    go_ret
    exact ⟨rfl, HB1.out⟩
  have b2 : ¬ ((20 : Int) < (zs.length : Int)) := by omega
  by_cases a3 : whS k = 3
  case neg =>
    have b3 : (whS k != 3) = true := by simpa using a3
    clear a3
    go_enter Tryz.func7, Tryz.ntmps7
    go_wp2_with (first | (go_at_call 8; refine Calls.mono (known_l _ hw) ?_; rintro e w1 ⟨rfl, hb1⟩; have HB1 : Hid _ := hb1; clear hb1) | (go_at_call 17; refine Calls.mono (white_k _ _) ?_; rintro e w2 ⟨rfl, hw2⟩; have hw3 := hw2.symm; clear hw2; subst hw3))
    go_ret
    exact ⟨rfl, HB1.out⟩
  have b3 : (whS k != 3) = false := by simpa using a3
  have HZ : Hid _ := And.intro hz (And.intro hby (And.intro a3 (And.intro a1 a2)))
  clear hz hby a3
  have hzl : zs.length ≤ 20 := by omega
  have hsl : s.size ≤ 100 := by omega
  clear a1 a2
  go_enter Tryz.func7, Tryz.ntmps7
  go_wp2_with (first | (go_at_call 8; refine Calls.mono (known_l _ hw) ?_; rintro e w1 ⟨rfl, hb1⟩; have HB1 : Hid _ := hb1; clear hb1) | (go_at_call 17; refine Calls.mono (white_k _ _) ?_; rintro e w2 ⟨rfl, hw2⟩; have hw3 := hw2.symm; clear hw2; subst hw3))
  go_loopg [7, 8] zs.length (fun q v7 v8 wr => ∃ (j : Nat) (b : ByteArray), j + q = zs.length ∧ v8 = .int .i64 (j : Int) ∧ v7 = .string b ∧ b.size = j ∧ Wht (Ch.bl b) ∧ Below w.heap.size w wr)
  case atStart => exact ⟨0, ⟨#[]⟩, by omega, rfl, rfl, rfl, Wht.nil, HB1.out⟩
  case round =>
    obtain ⟨j, b, hjq, rfl, rfl, hbs, hwh, hbel⟩ := hrel
    by_cases hlt : j < zs.length
    · obtain ⟨q, rfl⟩ : ∃ q, gk = q + 1 := ⟨gk - 1, by omega⟩
      obtain ⟨g, o, rfl, hg, hcl⟩ := HZ.out.1.cell (by intro h; rw [h] at hlt; simp at hlt)
      have hc := (hbel.cell (p := ⟨g, o + j, none⟩) hg).trans (hcl j hlt)
      have hx := HZ.out.2.1 zs[j] (List.getElem_mem hlt)
      have hd : (wr.alloc (.cells #[.string ⟨#[32]⟩, .string ⟨#[9]⟩, .string ⟨#[10]⟩, .string ⟨#[13]⟩] 9)).cell? ⟨g, o + j, none⟩ = some (.int .u8 zs[j]) := (((Below.refl wr.heap.size wr).alloc (Nat.le_refl _) _).cell (p := ⟨g, o + j, none⟩) (Nat.lt_of_lt_of_le hg hbel.size)).trans hc
      have HQ : Hid _ := And.intro hbs (And.intro hwh hbel)
      clear hbs hwh hbel hcl
      generalize zs[j] = x at *
      have hbz : b.size ≤ 20 := by have := HQ.out.1; omega
      rcases (by omega : x % 4 = 0 ∨ x % 4 = 1 ∨ x % 4 = 2 ∨ x % 4 = 3) with hm | hm | hm | hm
      all_goals
        have ht : Int.tmod x 4 = x % 4 := Int.tmod_eq_emod_of_nonneg hx.1
        rw [hm] at ht
        go_wp2_with fail
        go_roundg q
        case measure => omega
        case rel =>
          first
            | exact ⟨j + 1, b ++ blk4 0, by omega, by go_num, rfl, by rw [blk_size]; have := HQ.out.1; omega, wht_one HQ.out.2.1 0, HQ.out.2.2.alloc HQ.out.2.2.size _⟩
            | exact ⟨j + 1, b ++ blk4 1, by omega, by go_num, rfl, by rw [blk_size]; have := HQ.out.1; omega, wht_one HQ.out.2.1 1, HQ.out.2.2.alloc HQ.out.2.2.size _⟩
            | exact ⟨j + 1, b ++ blk4 2, by omega, by go_num, rfl, by rw [blk_size]; have := HQ.out.1; omega, wht_one HQ.out.2.1 2, HQ.out.2.2.alloc HQ.out.2.2.size _⟩
            | exact ⟨j + 1, b ++ blk4 3, by omega, by go_num, rfl, by rw [blk_size]; have := HQ.out.1; omega, wht_one HQ.out.2.1 3, HQ.out.2.2.alloc HQ.out.2.2.size _⟩
    · have hbz : b.size ≤ 20 := by omega
      have hsz : (b ++ s ++ b).size ≤ 100000 := by rw [ByteArray.size_append, ByteArray.size_append]; omega
      have HL : Hid _ := hbel
      have HP : Hid _ := fun W (hW : Lw W) => parse_about k s b W hsz HZ.out.2.2.1 hwh hW
      clear hbel hwh hsz
      go_upto_region 11 with (first | (go_at_call 21; refine Calls.mono (parse_q k s _ (by omega) (hw.below HL.out)) ?_; rintro e w2 ⟨hb2, p1, t1, g1, a1, b1, c1, s1, m1, q1, rfl, hv1⟩; have HB2 : Hid _ := HL.out.trans (hb2.mono HL.out.size); have HV1 : Hid _ := hv1; clear hb2 hv1) | (refine wpList_store_row rfl 40 _ _ rfl _ _ rfl rfl 40 _ (nw_heap _ _) (by kernel_rfl) rfl (by simp [Value.oneCell']) ?_; rw [alloc_setRow]))
      have hxU := nw_heap w2 (.cells #[.int .i64 p1, .string t1, .bool g1, .slice a1 b1 c1, .int .i64 s1, .int .i64 m1.k, .int .i64 m1.y, .int .i64 m1.m, .int .i64 m1.d, .int .i64 m1.s, .int .i64 m1.n, .bool m1.hz, .int .i64 m1.z, .int .i64 q1.o, .int .i64 q1.s, .int .i64 q1.n] 40)
      have hbU : Below w2.heap.size w2 (w2.alloc (.cells #[.int .i64 p1, .string t1, .bool g1, .slice a1 b1 c1, .int .i64 s1, .int .i64 m1.k, .int .i64 m1.y, .int .i64 m1.m, .int .i64 m1.d, .int .i64 m1.s, .int .i64 m1.n, .bool m1.hz, .int .i64 m1.z, .int .i64 q1.o, .int .i64 q1.s, .int .i64 q1.n] 40)) := (Below.refl _ _).alloc (Nat.le_refl _) _
      obtain ⟨U, hUU⟩ : ∃ X, w2.alloc (.cells #[.int .i64 p1, .string t1, .bool g1, .slice a1 b1 c1, .int .i64 s1, .int .i64 m1.k, .int .i64 m1.y, .int .i64 m1.m, .int .i64 m1.d, .int .i64 m1.s, .int .i64 m1.n, .bool m1.hz, .int .i64 m1.z, .int .i64 q1.o, .int .i64 q1.s, .int .i64 q1.n] 40) = X := ⟨_, rfl⟩
      rw [hUU] at hxU hbU ⊢
      have HU : Hid _ := And.intro (HB2.out.trans (hbU.mono HB2.out.size)) (And.intro hxU (fun d hd => (HV1.out d hd).below hbU))
      clear hxU hbU hUU HV1 HB2 HL
      generalize w2.heap.size = X at *
      clear w2
      go_upto_region 12 with (first | (go_at_call 21; refine Calls.mono (HP.out _ (hw.below HU.out.1)) ?_; rintro e w3 ⟨hb3, p2, t2, g2, a2, b2, c2, s2, m2, q2, rfl, hv2⟩; have HB3 : Hid _ := hb3; have HV2 : Hid _ := hv2; clear hb3 hv2) | (refine wpList_store_row rfl 40 _ _ rfl _ _ rfl rfl 40 _ (nw_heap _ _) (by kernel_rfl) rfl (by simp [Value.oneCell']) ?_; rw [alloc_setRow]))
      have hyV := nw_heap w3 (.cells #[.int .i64 p2, .string t2, .bool g2, .slice a2 b2 c2, .int .i64 s2, .int .i64 m2.k, .int .i64 m2.y, .int .i64 m2.m, .int .i64 m2.d, .int .i64 m2.s, .int .i64 m2.n, .bool m2.hz, .int .i64 m2.z, .int .i64 q2.o, .int .i64 q2.s, .int .i64 q2.n] 40)
      have hbV : Below w3.heap.size w3 (w3.alloc (.cells #[.int .i64 p2, .string t2, .bool g2, .slice a2 b2 c2, .int .i64 s2, .int .i64 m2.k, .int .i64 m2.y, .int .i64 m2.m, .int .i64 m2.d, .int .i64 m2.s, .int .i64 m2.n, .bool m2.hz, .int .i64 m2.z, .int .i64 q2.o, .int .i64 q2.s, .int .i64 q2.n] 40)) := (Below.refl _ _).alloc (Nat.le_refl _) _
      obtain ⟨V, hVV⟩ : ∃ X, w3.alloc (.cells #[.int .i64 p2, .string t2, .bool g2, .slice a2 b2 c2, .int .i64 s2, .int .i64 m2.k, .int .i64 m2.y, .int .i64 m2.m, .int .i64 m2.d, .int .i64 m2.s, .int .i64 m2.n, .bool m2.hz, .int .i64 m2.z, .int .i64 q2.o, .int .i64 q2.s, .int .i64 q2.n] 40) = X := ⟨_, rfl⟩
      rw [hVV] at hyV hbV ⊢
      have hUV := HB3.out.trans (hbV.mono HB3.out.size)
      have HV : Hid _ := And.intro (HU.out.1.trans (hUV.mono HU.out.1.size)) (And.intro ((hUV.block _ (Dc.lt_of HU.out.2.1)).trans HU.out.2.1) (And.intro hyV (And.intro (fun d hd => (HU.out.2.2 d hd).below hUV) (fun d hd => (HV2.out d hd).below hbV))))
      clear hyV hbV hVV HV2 HB3 HU hUV
      generalize w3.heap.size = Y at *
      clear w3
      have HE1 : Hid _ := er_o k s
      generalize erS k s = e1 at *
      have HK : Hid (∀ W, Below V.heap.size V W → _ ∧ _) := fun W hW => And.intro ((hW.block _ (Dc.lt_of HV.out.2.1)).trans HV.out.2.1) ((hW.block _ (Dc.lt_of HV.out.2.2.1)).trans HV.out.2.2.1)
      obtain ⟨hx, hy⟩ := HK.out V.drew (Dc.Below.drewN' 1)
      have HB : Hid (Below V.heap.size V V.drew) := Dc.Below.drewN' 1
      by_cases h1 : e1 = 0
      case neg =>
        have h1b : (e1 == 0) = false := by simpa using h1
        have h1c : (e1 != 0) = true := by simpa using h1
        clear h1
        refine wp_region_held_drew (S := fun W => W.heap[X]? = some (.cells [.int .i64 p1, .string t1, .bool g1, .slice a1 b1 c1, .int .i64 s1, .int .i64 m1.k, .int .i64 m1.y, .int .i64 m1.m, .int .i64 m1.d, .int .i64 m1.s, .int .i64 m1.n, .bool m1.hz, .int .i64 m1.z, .int .i64 q1.o, .int .i64 q1.s, .int .i64 q1.n].toArray 40 (0, 0)) ∧ W.heap[Y]? = some (.cells [.int .i64 p2, .string t2, .bool g2, .slice a2 b2 c2, .int .i64 s2, .int .i64 m2.k, .int .i64 m2.y, .int .i64 m2.m, .int .i64 m2.d, .int .i64 m2.s, .int .i64 m2.n, .bool m2.hz, .int .i64 m2.z, .int .i64 q2.o, .int .i64 q2.s, .int .i64 q2.n].toArray 40 (0, 0))) (by kernel_rfl) ⟨hx, hy⟩ (fun hHeld => ?_)
        refine wpAnyH_take (i := 0) (v := (.int .i64 e1)) rfl (by kernel_rfl) (by kernel_rfl) (by kernel_rfl) (fun _ _ _ h => h) (Or.inl ⟨by kernel_rfl, fun w' hSw => (by go_simp)⟩) (by assumption) ?_
        try simp only [Act.put, List.getElem_toArray, List.getElem_cons_zero, List.getElem_cons_succ, List.setIfInBounds_toArray, List.set_cons_zero, List.set_cons_succ]
        refine wpAnyH_take (i := 1) (v := (.int .i64 e1)) rfl (by kernel_rfl) (by kernel_rfl) (by kernel_rfl) (fun _ _ _ h => h) (Or.inl ⟨by kernel_rfl, fun w' hSw => (by go_simp)⟩) (by assumption) ?_
        try simp only [Act.put, List.getElem_toArray, List.getElem_cons_zero, List.getElem_cons_succ, List.setIfInBounds_toArray, List.set_cons_zero, List.set_cons_succ]
        refine wpAnyH_take (i := 2) (v := (.bool true)) rfl (by kernel_rfl) (by kernel_rfl) (by kernel_rfl) (fun _ _ _ h => h) (Or.inl ⟨by kernel_rfl, fun w' hSw => (by go_simp)⟩) (by assumption) ?_
        try simp only [Act.put, List.getElem_toArray, List.getElem_cons_zero, List.getElem_cons_succ, List.setIfInBounds_toArray, List.set_cons_zero, List.set_cons_succ]
        refine wpAnyH_take (i := 3) (v := (.bool true)) rfl (by kernel_rfl) (by kernel_rfl) (by kernel_rfl) (fun _ _ _ h => h) (Or.inl ⟨by kernel_rfl, fun w' hSw => (by go_simp)⟩) (by assumption) ?_
        try simp only [Act.put, List.getElem_toArray, List.getElem_cons_zero, List.getElem_cons_succ, List.setIfInBounds_toArray, List.set_cons_zero, List.set_cons_succ]
        refine wpAnyH_take (i := 4) (v := (.int .i64 e1)) rfl (by kernel_rfl) (by kernel_rfl) (by kernel_rfl) (fun _ _ _ h => h) (Or.inl ⟨by kernel_rfl, fun w' hSw => (by go_simp)⟩) (by assumption) ?_
        try simp only [Act.put, List.getElem_toArray, List.getElem_cons_zero, List.getElem_cons_succ, List.setIfInBounds_toArray, List.set_cons_zero, List.set_cons_succ]
        refine wpAnyH_take (i := 5) (v := (.bool true)) rfl (by kernel_rfl) (by kernel_rfl) (by kernel_rfl) (fun _ _ _ h => h) (Or.inl ⟨by kernel_rfl, fun w' hSw => (by go_simp)⟩) (by assumption) ?_
        try simp only [Act.put, List.getElem_toArray, List.getElem_cons_zero, List.getElem_cons_succ, List.setIfInBounds_toArray, List.set_cons_zero, List.set_cons_succ]
        refine wpAnyH_take (i := 6) (v := (.bool true)) rfl (by kernel_rfl) (by kernel_rfl) (by kernel_rfl) (fun _ _ _ h => h) (Or.inl ⟨by kernel_rfl, fun w' hSw => (by go_simp)⟩) (by assumption) ?_
        try simp only [Act.put, List.getElem_toArray, List.getElem_cons_zero, List.getElem_cons_succ, List.setIfInBounds_toArray, List.set_cons_zero, List.set_cons_succ]
        refine wpAnyH_take (i := 7) (v := (undef)) rfl (by kernel_rfl) (by kernel_rfl) (by kernel_rfl) (fun _ _ _ h => h) (Or.inr ⟨by kernel_rfl, rfl⟩) (by assumption) ?_
        try simp only [Act.put, List.getElem_toArray, List.getElem_cons_zero, List.getElem_cons_succ, List.setIfInBounds_toArray, List.set_cons_zero, List.set_cons_succ]
        refine wpAnyH_take (i := 8) (v := (undef)) rfl (by kernel_rfl) (by kernel_rfl) (by kernel_rfl) (fun _ _ _ h => h) (Or.inr ⟨by kernel_rfl, rfl⟩) (by assumption) ?_
        try simp only [Act.put, List.getElem_toArray, List.getElem_cons_zero, List.getElem_cons_succ, List.setIfInBounds_toArray, List.set_cons_zero, List.set_cons_succ]
        refine wpAnyH_take (i := 9) (v := (undef)) rfl (by kernel_rfl) (by kernel_rfl) (by kernel_rfl) (fun _ _ _ h => h) (Or.inr ⟨by kernel_rfl, rfl⟩) (by assumption) ?_
        try simp only [Act.put, List.getElem_toArray, List.getElem_cons_zero, List.getElem_cons_succ, List.setIfInBounds_toArray, List.set_cons_zero, List.set_cons_succ]
        refine wpAnyH_take (i := 10) (v := (undef)) rfl (by kernel_rfl) (by kernel_rfl) (by kernel_rfl) (fun _ _ _ h => h) (Or.inr ⟨by kernel_rfl, rfl⟩) (by assumption) ?_
        try simp only [Act.put, List.getElem_toArray, List.getElem_cons_zero, List.getElem_cons_succ, List.setIfInBounds_toArray, List.set_cons_zero, List.set_cons_succ]
        refine wpAnyH_take (i := 11) (v := (undef)) rfl (by kernel_rfl) (by kernel_rfl) (by kernel_rfl) (fun _ _ _ h => h) (Or.inr ⟨by kernel_rfl, rfl⟩) (by assumption) ?_
        try simp only [Act.put, List.getElem_toArray, List.getElem_cons_zero, List.getElem_cons_succ, List.setIfInBounds_toArray, List.set_cons_zero, List.set_cons_succ]
        refine wpAnyH_take (i := 12) (v := (undef)) rfl (by kernel_rfl) (by kernel_rfl) (by kernel_rfl) (fun _ _ _ h => h) (Or.inr ⟨by kernel_rfl, rfl⟩) (by assumption) ?_
        try simp only [Act.put, List.getElem_toArray, List.getElem_cons_zero, List.getElem_cons_succ, List.setIfInBounds_toArray, List.set_cons_zero, List.set_cons_succ]
        refine wpAnyH_take (i := 13) (v := (undef)) rfl (by kernel_rfl) (by kernel_rfl) (by kernel_rfl) (fun _ _ _ h => h) (Or.inr ⟨by kernel_rfl, rfl⟩) (by assumption) ?_
        try simp only [Act.put, List.getElem_toArray, List.getElem_cons_zero, List.getElem_cons_succ, List.setIfInBounds_toArray, List.set_cons_zero, List.set_cons_succ]
        refine wpAnyH_take (i := 14) (v := (undef)) rfl (by kernel_rfl) (by kernel_rfl) (by kernel_rfl) (fun _ _ _ h => h) (Or.inr ⟨by kernel_rfl, rfl⟩) (by assumption) ?_
        try simp only [Act.put, List.getElem_toArray, List.getElem_cons_zero, List.getElem_cons_succ, List.setIfInBounds_toArray, List.set_cons_zero, List.set_cons_succ]
        refine wpAnyH_take (i := 15) (v := (undef)) rfl (by kernel_rfl) (by kernel_rfl) (by kernel_rfl) (fun _ _ _ h => h) (Or.inr ⟨by kernel_rfl, rfl⟩) (by assumption) ?_
        try simp only [Act.put, List.getElem_toArray, List.getElem_cons_zero, List.getElem_cons_succ, List.setIfInBounds_toArray, List.set_cons_zero, List.set_cons_succ]
        refine wpAnyH_take (i := 16) (v := (undef)) rfl (by kernel_rfl) (by kernel_rfl) (by kernel_rfl) (fun _ _ _ h => h) (Or.inr ⟨by kernel_rfl, rfl⟩) (by assumption) ?_
        try simp only [Act.put, List.getElem_toArray, List.getElem_cons_zero, List.getElem_cons_succ, List.setIfInBounds_toArray, List.set_cons_zero, List.set_cons_succ]
        refine wpAnyH_take (i := 17) (v := (.bool true)) rfl (by kernel_rfl) (by kernel_rfl) (by kernel_rfl) (fun _ _ _ h => h) (Or.inl ⟨by kernel_rfl, fun w' hSw => (by go_simp)⟩) (by assumption) ?_
        try simp only [Act.put, List.getElem_toArray, List.getElem_cons_zero, List.getElem_cons_succ, List.setIfInBounds_toArray, List.set_cons_zero, List.set_cons_succ]
        refine wpAnyH_take (i := 18) (v := (.bool true)) rfl (by kernel_rfl) (by kernel_rfl) (by kernel_rfl) (fun _ _ _ h => h) (Or.inl ⟨by kernel_rfl, fun w' hSw => (by go_simp)⟩) (by assumption) ?_
        try simp only [Act.put, List.getElem_toArray, List.getElem_cons_zero, List.getElem_cons_succ, List.setIfInBounds_toArray, List.set_cons_zero, List.set_cons_succ]
        refine wpAnyH_take (i := 19) (v := (.bool true)) rfl (by kernel_rfl) (by kernel_rfl) (by kernel_rfl) (fun _ _ _ h => h) (Or.inl ⟨by kernel_rfl, fun w' hSw => (by go_simp)⟩) (by assumption) ?_
        try simp only [Act.put, List.getElem_toArray, List.getElem_cons_zero, List.getElem_cons_succ, List.setIfInBounds_toArray, List.set_cons_zero, List.set_cons_succ]
        refine wpAnyH_done (by kernel_rfl) ?_ _
        clear hHeld
        go_wp2_with fail
        go_ret
        exact ⟨rfl, HV.out.1.trans (HB.out.mono HV.out.1.size)⟩
      case pos =>
        subst h1
        obtain ⟨d, ho, hk, hp⟩ : ∃ d, oS k s = some d ∧ isK k = true ∧ psS k s = some d := by rcases HE1.out with q | q; exact q.2; omega
        have ok := ps_ok hk hp
        have v1 := HV.out.2.2.2.1 d ho
        have v2 := HV.out.2.2.2.2 d ho
        have HS : Hid _ := fun W (hW : Below V.heap.size V W) => same_self (v1.below hW) (v2.below hW) ok
        have HT1 : Hid _ := fun W (hW : Below V.heap.size V W) => text_a ((hw.below HV.out.1).below hW) (v1.below hW) ok
        have HT2 : Hid _ := fun W (hW : Below V.heap.size V W) => text_a ((hw.below HV.out.1).below hW) (v2.below hW) ok
        generalize txK d = y at *
        clear v1 v2 ok hp ho
        refine wp_region_held_drew (S := fun W => W.heap[X]? = some (.cells [.int .i64 p1, .string t1, .bool g1, .slice a1 b1 c1, .int .i64 s1, .int .i64 m1.k, .int .i64 m1.y, .int .i64 m1.m, .int .i64 m1.d, .int .i64 m1.s, .int .i64 m1.n, .bool m1.hz, .int .i64 m1.z, .int .i64 q1.o, .int .i64 q1.s, .int .i64 q1.n].toArray 40 (0, 0)) ∧ W.heap[Y]? = some (.cells [.int .i64 p2, .string t2, .bool g2, .slice a2 b2 c2, .int .i64 s2, .int .i64 m2.k, .int .i64 m2.y, .int .i64 m2.m, .int .i64 m2.d, .int .i64 m2.s, .int .i64 m2.n, .bool m2.hz, .int .i64 m2.z, .int .i64 q2.o, .int .i64 q2.s, .int .i64 q2.n].toArray 40 (0, 0))) (by kernel_rfl) ⟨hx, hy⟩ (fun hHeld => ?_)
        refine wpAnyH_take (i := 0) (v := (.int .i64 0)) rfl (by kernel_rfl) (by kernel_rfl) (by kernel_rfl) (fun _ _ _ h => h) (Or.inl ⟨by kernel_rfl, fun w' hSw => (by go_simp)⟩) (by assumption) ?_
        try simp only [Act.put, List.getElem_toArray, List.getElem_cons_zero, List.getElem_cons_succ, List.setIfInBounds_toArray, List.set_cons_zero, List.set_cons_succ]
        refine wpAnyH_take (i := 1) (v := (.int .i64 0)) rfl (by kernel_rfl) (by kernel_rfl) (by kernel_rfl) (fun _ _ _ h => h) (Or.inl ⟨by kernel_rfl, fun w' hSw => (by go_simp)⟩) (by assumption) ?_
        try simp only [Act.put, List.getElem_toArray, List.getElem_cons_zero, List.getElem_cons_succ, List.setIfInBounds_toArray, List.set_cons_zero, List.set_cons_succ]
        refine wpAnyH_take (i := 2) (v := (.bool true)) rfl (by kernel_rfl) (by kernel_rfl) (by kernel_rfl) (fun _ _ _ h => h) (Or.inl ⟨by kernel_rfl, fun w' hSw => (by go_simp)⟩) (by assumption) ?_
        try simp only [Act.put, List.getElem_toArray, List.getElem_cons_zero, List.getElem_cons_succ, List.setIfInBounds_toArray, List.set_cons_zero, List.set_cons_succ]
        refine wpAnyH_take (i := 3) (v := (.bool true)) rfl (by kernel_rfl) (by kernel_rfl) (by kernel_rfl) (fun _ _ _ h => h) (Or.inl ⟨by kernel_rfl, fun w' hSw => (by go_simp)⟩) (by assumption) ?_
        try simp only [Act.put, List.getElem_toArray, List.getElem_cons_zero, List.getElem_cons_succ, List.setIfInBounds_toArray, List.set_cons_zero, List.set_cons_succ]
        refine wpAnyH_take (i := 4) (v := (.int .i64 0)) rfl (by kernel_rfl) (by kernel_rfl) (by kernel_rfl) (fun _ _ _ h => h) (Or.inl ⟨by kernel_rfl, fun w' hSw => (by go_simp)⟩) (by assumption) ?_
        try simp only [Act.put, List.getElem_toArray, List.getElem_cons_zero, List.getElem_cons_succ, List.setIfInBounds_toArray, List.set_cons_zero, List.set_cons_succ]
        refine wpAnyH_take (i := 5) (v := (.bool false)) rfl (by kernel_rfl) (by kernel_rfl) (by kernel_rfl) (fun _ _ _ h => h) (Or.inl ⟨by kernel_rfl, fun w' hSw => (by go_simp)⟩) (by assumption) ?_
        try simp only [Act.put, List.getElem_toArray, List.getElem_cons_zero, List.getElem_cons_succ, List.setIfInBounds_toArray, List.set_cons_zero, List.set_cons_succ]
        refine wpAnyH_take (i := 6) (v := (.bool false)) rfl (by kernel_rfl) (by kernel_rfl) (by kernel_rfl) (fun _ _ _ h => h) (Or.inl ⟨by kernel_rfl, fun w' hSw => (by go_simp)⟩) (by assumption) ?_
        try simp only [Act.put, List.getElem_toArray, List.getElem_cons_zero, List.getElem_cons_succ, List.setIfInBounds_toArray, List.set_cons_zero, List.set_cons_succ]
        refine wpAnyH_take (i := 7) (v := (.agg #[.int .i64 p1, .string t1, .bool g1, .slice a1 b1 c1, .int .i64 s1, .int .i64 m1.k, .int .i64 m1.y, .int .i64 m1.m, .int .i64 m1.d, .int .i64 m1.s, .int .i64 m1.n, .bool m1.hz, .int .i64 m1.z, .int .i64 q1.o, .int .i64 q1.s, .int .i64 q1.n])) rfl (by kernel_rfl) (by kernel_rfl) (by kernel_rfl) (fun _ _ _ h => h) (yieldsIf_load_mid (by kernel_rfl) 40 _ rfl X 0 rfl [.int .i64 p1, .string t1, .bool g1, .slice a1 b1 c1, .int .i64 s1, .int .i64 m1.k, .int .i64 m1.y, .int .i64 m1.m, .int .i64 m1.d, .int .i64 m1.s, .int .i64 m1.n, .bool m1.hz, .int .i64 m1.z, .int .i64 q1.o, .int .i64 q1.s, .int .i64 q1.n] _ (fun W hW => rng0 hW.1) Tryz.underlying40 rfl (by kernel_rfl)) (by assumption) ?_
        try simp only [Act.put, List.getElem_toArray, List.getElem_cons_zero, List.getElem_cons_succ, List.setIfInBounds_toArray, List.set_cons_zero, List.set_cons_succ]
        refine wpAnyH_take (i := 8) (v := (.agg #[.int .i64 p2, .string t2, .bool g2, .slice a2 b2 c2, .int .i64 s2, .int .i64 m2.k, .int .i64 m2.y, .int .i64 m2.m, .int .i64 m2.d, .int .i64 m2.s, .int .i64 m2.n, .bool m2.hz, .int .i64 m2.z, .int .i64 q2.o, .int .i64 q2.s, .int .i64 q2.n])) rfl (by kernel_rfl) (by kernel_rfl) (by kernel_rfl) (fun _ _ _ h => h) (yieldsIf_load_mid (by kernel_rfl) 40 _ rfl Y 0 rfl [.int .i64 p2, .string t2, .bool g2, .slice a2 b2 c2, .int .i64 s2, .int .i64 m2.k, .int .i64 m2.y, .int .i64 m2.m, .int .i64 m2.d, .int .i64 m2.s, .int .i64 m2.n, .bool m2.hz, .int .i64 m2.z, .int .i64 q2.o, .int .i64 q2.s, .int .i64 q2.n] _ (fun W hW => rng0 hW.2) Tryz.underlying40 rfl (by kernel_rfl)) (by assumption) ?_
        try simp only [Act.put, List.getElem_toArray, List.getElem_cons_zero, List.getElem_cons_succ, List.setIfInBounds_toArray, List.set_cons_zero, List.set_cons_succ]
        refine wpAnyH_ready (rs := [9]) (by kernel_rfl) (by simp) ?_
        refine AllReadyH.cons rfl (fun K hK => ?_) AllReadyH.nil
        go_simp
        refine Calls.mono (HS.out _ HB.out) ?_
        rintro e w9 ⟨rfl, hb9⟩
        have hbb := HB.out.trans (hb9.mono HB.out.size)
        have hS9 := HK.out _ hbb
        clear HB hHeld
        have HB : Hid _ := hbb
        clear hbb hb9
        go_wp2_with fail
        refine hK.out _ _ hS9 (fun hHeld => ?_)
        clear hK K hS9
        try simp only [Act.put, List.getElem_toArray, List.getElem_cons_zero, List.getElem_cons_succ, List.setIfInBounds_toArray, List.set_cons_zero, List.set_cons_succ]
        refine wpAnyH_take (i := 10) (v := (.bool true)) rfl (by kernel_rfl) (by kernel_rfl) (by kernel_rfl) (fun _ _ _ h => h) (Or.inl ⟨by kernel_rfl, fun w' hSw => (by go_simp)⟩) (by assumption) ?_
        try simp only [Act.put, List.getElem_toArray, List.getElem_cons_zero, List.getElem_cons_succ, List.setIfInBounds_toArray, List.set_cons_zero, List.set_cons_succ]
        refine wpAnyH_take (i := 11) (v := (.agg #[.int .i64 p1, .string t1, .bool g1, .slice a1 b1 c1, .int .i64 s1, .int .i64 m1.k, .int .i64 m1.y, .int .i64 m1.m, .int .i64 m1.d, .int .i64 m1.s, .int .i64 m1.n, .bool m1.hz, .int .i64 m1.z, .int .i64 q1.o, .int .i64 q1.s, .int .i64 q1.n])) rfl (by kernel_rfl) (by kernel_rfl) (by kernel_rfl) (fun _ _ _ h => h) (yieldsIf_load_mid (by kernel_rfl) 40 _ rfl X 0 rfl [.int .i64 p1, .string t1, .bool g1, .slice a1 b1 c1, .int .i64 s1, .int .i64 m1.k, .int .i64 m1.y, .int .i64 m1.m, .int .i64 m1.d, .int .i64 m1.s, .int .i64 m1.n, .bool m1.hz, .int .i64 m1.z, .int .i64 q1.o, .int .i64 q1.s, .int .i64 q1.n] _ (fun W hW => rng0 hW.1) Tryz.underlying40 rfl (by kernel_rfl)) (by assumption) ?_
        try simp only [Act.put, List.getElem_toArray, List.getElem_cons_zero, List.getElem_cons_succ, List.setIfInBounds_toArray, List.set_cons_zero, List.set_cons_succ]
        refine wpAnyH_take (i := 13) (v := (.agg #[.int .i64 p2, .string t2, .bool g2, .slice a2 b2 c2, .int .i64 s2, .int .i64 m2.k, .int .i64 m2.y, .int .i64 m2.m, .int .i64 m2.d, .int .i64 m2.s, .int .i64 m2.n, .bool m2.hz, .int .i64 m2.z, .int .i64 q2.o, .int .i64 q2.s, .int .i64 q2.n])) rfl (by kernel_rfl) (by kernel_rfl) (by kernel_rfl) (fun _ _ _ h => h) (yieldsIf_load_mid (by kernel_rfl) 40 _ rfl Y 0 rfl [.int .i64 p2, .string t2, .bool g2, .slice a2 b2 c2, .int .i64 s2, .int .i64 m2.k, .int .i64 m2.y, .int .i64 m2.m, .int .i64 m2.d, .int .i64 m2.s, .int .i64 m2.n, .bool m2.hz, .int .i64 m2.z, .int .i64 q2.o, .int .i64 q2.s, .int .i64 q2.n] _ (fun W hW => rng0 hW.2) Tryz.underlying40 rfl (by kernel_rfl)) (by assumption) ?_
        try simp only [Act.put, List.getElem_toArray, List.getElem_cons_zero, List.getElem_cons_succ, List.setIfInBounds_toArray, List.set_cons_zero, List.set_cons_succ]
        refine wpAnyH_ready (rs := [12]) (by kernel_rfl) (by simp) ?_
        refine AllReadyH.cons rfl (fun K hK => ?_) AllReadyH.nil
        go_simp
        refine Calls.mono (HT1.out _ HB.out) ?_
        rintro e w9 ⟨rfl, hb9⟩
        have hbb := HB.out.trans (hb9.mono HB.out.size)
        have hS9 := HK.out _ hbb
        clear HB hHeld
        have HB : Hid _ := hbb
        clear hbb hb9
        go_wp2_with fail
        refine hK.out _ _ hS9 (fun hHeld => ?_)
        clear hK K hS9
        try simp only [Act.put, List.getElem_toArray, List.getElem_cons_zero, List.getElem_cons_succ, List.setIfInBounds_toArray, List.set_cons_zero, List.set_cons_succ]
        refine wpAnyH_ready (rs := [14]) (by kernel_rfl) (by simp) ?_
        refine AllReadyH.cons rfl (fun K hK => ?_) AllReadyH.nil
        go_simp
        refine Calls.mono (HT2.out _ HB.out) ?_
        rintro e w9 ⟨rfl, hb9⟩
        have hbb := HB.out.trans (hb9.mono HB.out.size)
        have hS9 := HK.out _ hbb
        clear HB hHeld
        have HB : Hid _ := hbb
        clear hbb hb9
        go_wp2_with fail
        refine hK.out _ _ hS9 (fun hHeld => ?_)
        clear hK K hS9
        try simp only [Act.put, List.getElem_toArray, List.getElem_cons_zero, List.getElem_cons_succ, List.setIfInBounds_toArray, List.set_cons_zero, List.set_cons_succ]
        refine wpAnyH_take (i := 15) (v := (.bool true)) rfl (by kernel_rfl) (by kernel_rfl) (by kernel_rfl) (fun _ _ _ h => h) (Or.inl ⟨by kernel_rfl, fun w' hSw => (by go_simp)⟩) (by assumption) ?_
        try simp only [Act.put, List.getElem_toArray, List.getElem_cons_zero, List.getElem_cons_succ, List.setIfInBounds_toArray, List.set_cons_zero, List.set_cons_succ]
        refine wpAnyH_take (i := 16) (v := (.bool true)) rfl (by kernel_rfl) (by kernel_rfl) (by kernel_rfl) (fun _ _ _ h => h) (Or.inl ⟨by kernel_rfl, fun w' hSw => (by go_simp)⟩) (by assumption) ?_
        try simp only [Act.put, List.getElem_toArray, List.getElem_cons_zero, List.getElem_cons_succ, List.setIfInBounds_toArray, List.set_cons_zero, List.set_cons_succ]
        refine wpAnyH_take (i := 17) (v := (.bool true)) rfl (by kernel_rfl) (by kernel_rfl) (by kernel_rfl) (fun _ _ _ h => h) (Or.inl ⟨by kernel_rfl, fun w' hSw => (by go_simp)⟩) (by assumption) ?_
        try simp only [Act.put, List.getElem_toArray, List.getElem_cons_zero, List.getElem_cons_succ, List.setIfInBounds_toArray, List.set_cons_zero, List.set_cons_succ]
        refine wpAnyH_take (i := 18) (v := (.bool true)) rfl (by kernel_rfl) (by kernel_rfl) (by kernel_rfl) (fun _ _ _ h => h) (Or.inl ⟨by kernel_rfl, fun w' hSw => (by go_simp)⟩) (by assumption) ?_
        try simp only [Act.put, List.getElem_toArray, List.getElem_cons_zero, List.getElem_cons_succ, List.setIfInBounds_toArray, List.set_cons_zero, List.set_cons_succ]
        refine wpAnyH_take (i := 19) (v := (.bool true)) rfl (by kernel_rfl) (by kernel_rfl) (by kernel_rfl) (fun _ _ _ h => h) (Or.inl ⟨by kernel_rfl, fun w' hSw => (by go_simp)⟩) (by assumption) ?_
        try simp only [Act.put, List.getElem_toArray, List.getElem_cons_zero, List.getElem_cons_succ, List.setIfInBounds_toArray, List.set_cons_zero, List.set_cons_succ]
        refine wpAnyH_done (by kernel_rfl) ?_ _
        clear hHeld
        go_wp2_with fail
        go_ret
        exact ⟨rfl, HV.out.1.trans (HB.out.mono HV.out.1.size)⟩
end Go.Proofs.YtgaegajcejpmdaaGreatDoor
namespace Go.Proofs.YtgaegajcejpmdaaGreatDoor.Dc
open Go.RowKit
set_option linter.unusedVariables false

theorem wf8 {a : Int} (h : (Lit.int .u8 a).wf = true) : 0 ≤ a ∧ a < 256 := by
  have := range_u8 (zs := [a]) (by intro n hn; simp at hn; subst hn; exact h) 0
  simp at this
  omega
theorem wf64 {a : Int} (h : (Lit.int .i64 a).wf = true) : -9223372036854775808 ≤ a ∧ a ≤ 9223372036854775807 := by
  simp [Lit.wf] at h
  have e1 : IntKind.i64.min = -9223372036854775808 := by decide
  have e2 : IntKind.i64.max = 9223372036854775807 := by decide
  omega
theorem row_btr {w : World} {a : Option Addr} {len cap : Nat} {zs : List Int} (h : (a = none ∧ len = 0 ∧ cap = 0 ∧ zs = []) ∨ ∃ x, a = some x ∧ len ≤ cap ∧ cap ≤ maxLen ∧ zs.length = cap ∧ (∀ i, i < zs.length → w.cell? (x.add i) = some (.int .u8 (zs.getD i 0))) ∧ ∀ n ∈ zs, (Lit.int .u8 n).wf = true) : BtR w (.slice a len cap) (zs.take len) := by
  rcases h with ⟨rfl, rfl, rfl, rfl⟩ | ⟨x, rfl, hl, hm, hz, hcell, hwz⟩
  · exact ⟨none, 0, rfl, Nat.le_refl _, Nat.zero_le _, fun d hd => by simp at hd, .inl rfl⟩
  · have hlen : (zs.take len).length = len := by simp; omega
    refine ⟨some x, cap, by rw [hlen], by omega, hm, fun d hd => ?_, ?_⟩
    · have := hwz d (List.mem_of_mem_take hd)
      exact wf8 this
    · by_cases h0 : len = 0
      · subst h0; exact .inl (by simp)
      · obtain ⟨b, o, spot⟩ := x
        have hc := hcell 0 (by omega)
        have hspot : spot = none := by simpa [Addr.add] using World.cell?_spot hc
        subst hspot
        have hblk : b < w.heap.size := by
          have := World.block_lt_of_cell? w _ hc
          simpa [Addr.add] using this
        refine .inr ⟨b, o, rfl, hblk, fun i hi => ?_⟩
        have hi' : i < len := by omega
        have := hcell i (by omega)
        rw [addr_add] at this
        rw [this]
        simp [List.getD_eq_getElem?_getD, List.getElem?_eq_getElem (show i < zs.length by omega)]
end Go.Proofs.YtgaegajcejpmdaaGreatDoor.Dc
