/- The program: Neg. -/
import Derived.Test.YtakemkhgaicckaaDoorD2
import Derived.Test.YtakemkhgaicckaaDoorD8
namespace Go.Proofs.YtakemkhgaicckaaDoor
open Go.RowKit
set_option linter.unusedVariables false
set_option linter.unusedSimpArgs false

theorem ng_pr {n : Nm} (h : CN n) : ngS n = (!n.1 && !(noS n.2.1), n.2.1, n.2.2) := by
  unfold ngS
  rw [all_one h.1]
  rfl
set_option maxRecDepth 100000 in
set_option maxHeartbeats 6400000 in
theorem neg_p {w : World} {v : Value} {n : Nm} (h : NmR w v n) : Calls Tryd.prog 12 #[nmV n.1 v n.2.2] w fun e w' => ∃ rv, e = .returned (nmV (ngS n).1 rv (ngS n).2.2) ∧ BtR w' rv (ngS n).2.1 ∧ Below w.heap.size w w' := by
  have hng := ng_pr h.cn
  have hlen := h.cn.1.len
  have hle := h.le
  have hne : n.2.1 ≠ [] := fun e => by rw [e] at hlen; simp at hlen
  obtain ⟨x1, x2, hb0⟩ := box2p w (.bool n.1) v (.int .i64 n.2.2) (.bool false) (.slice none 0 0) (.int .i64 0)
  generalize hU : ((w.alloc (.cells #[.bool n.1, v, .int .i64 n.2.2] 25)).alloc (.cells #[.bool false, .slice none 0 0, .int .i64 0] 25)) = U at x1 x2 hb0
  have hszU : w.heap.size + 2 = U.heap.size := by rw [← hU]; simp
  have qa := fun W (hW : Below U.heap.size U W) => right_nm (h.below (hb0.trans (hW.mono hb0.size)))
  have qn := fun W (hW : Below U.heap.size U W) => nought_p (h.bt.below (hb0.trans (hW.mono hb0.size))) n.1 n.2.2
  have qc := fun W (hW : Below U.heap.size U W) => clone_p (h.bt.below (hb0.trans (hW.mono hb0.size))) hne (by omega)
  obtain ⟨va, vc, rfl, _⟩ := h.bt.form
  rw [hng]
  obtain ⟨N, hN⟩ : ∃ N, noS n.2.1 = N := ⟨_, rfl⟩
  rw [hN] at qn ⊢
  have hkp : ∀ W, Below U.heap.size U W → ((W.cell? ⟨w.heap.size, 0, none⟩ = some (.bool n.1) ∧ W.cell? ⟨w.heap.size, 1, none⟩ = some (.slice va n.2.1.length vc) ∧ W.cell? ⟨w.heap.size, 2, none⟩ = some (.int .i64 n.2.2)) ∧ (W.cell? ⟨w.heap.size + 1, 0, none⟩ = some (.bool false) ∧ W.cell? ⟨w.heap.size + 1, 1, none⟩ = some (.slice none 0 0) ∧ W.cell? ⟨w.heap.size + 1, 2, none⟩ = some (.int .i64 0)) ∧ (W.frozen? ⟨w.heap.size + 1, 0, none⟩ = false ∧ W.frozen? ⟨w.heap.size + 1, 1, none⟩ = false ∧ W.frozen? ⟨w.heap.size + 1, 2, none⟩ = false)) := fun W hb => ⟨boxK x1 W hb, boxK x2 W hb, bl3f ((hb.block _ (lt_of x2)).trans x2)⟩
  have HB : Hid (Below U.heap.size U U) := Below.refl _ _
  obtain ⟨⟨g00, g01, g02⟩, ⟨g10, g11, g12⟩, f0, f1, f2⟩ := hkp U (Below.refl _ _)
  obtain ⟨ng, l, sc⟩ := n
  dsimp only at *
  have HKP : Hid _ := hkp
  have HH : Hid _ := And.intro qa (And.intro qn (And.intro qc (And.intro hb0 (And.intro x2 hszU))))
  clear qa qn qc hb0 hkp x1 x2 h hN hng hszU
  go_enter Tryd.func12, Tryd.ntmps12
  go_wp2_with (first
    | (go_at_call 18; (with_reducible refine Calls.mono (HH.out.1 _ HB.out) ?_); rintro e w8 ⟨rfl, hb9⟩; have hbb := HB.out.trans (hb9.mono HB.out.size); clear HB g00 g01 g02 g10 g11 g12 f0 f1 f2; obtain ⟨⟨g00, g01, g02⟩, ⟨g10, g11, g12⟩, f0, f1, f2⟩ := HKP.out _ hbb; have HB : Hid _ := hbb; clear hbb hb9))
  have HB : Hid (Below U.heap.size U w8.drew) := HB.out.trans ((Below.drewN' 1).mono HB.out.size)
  by_cases hq : ng = false
  case' pos =>
    subst hq
    go_region_held3 (fun W => W.cell? ⟨w.heap.size, 0, none⟩ = some (.bool false) ∧ W.cell? ⟨w.heap.size, 1, none⟩ = some (.slice va l.length vc) ∧ W.cell? ⟨w.heap.size, 2, none⟩ = some (.int .i64 sc)) (first | exact ⟨g00, g01, g02⟩ | go_keep) (first
      | (go_at_call 28; (with_reducible refine Calls.mono (HH.out.2.1 _ HB.out) ?_); rintro e w9 ⟨rfl, hb9⟩; have hbb := HB.out.trans (hb9.mono HB.out.size); clear HB g00 g01 g02 g10 g11 g12 f0 f1 f2; obtain ⟨⟨g00, g01, g02⟩, ⟨g10, g11, g12⟩, f0, f1, f2⟩ := HKP.out _ hbb; have HB : Hid _ := hbb; clear hbb hb9)
      | (go_at_call 29; (with_reducible refine Calls.mono (HH.out.2.2.1 _ HB.out) ?_); rintro e w9 ⟨a9, c9, rfl, hbt9, hbl9, hb9⟩; have hbb := HB.out.trans (hb9.mono HB.out.size); have HC : Hid _ := And.intro hbt9 (And.intro hbl9 HB.out); clear hbt9 hbl9; clear HB g00 g01 g02 g10 g11 g12 f0 f1 f2; obtain ⟨⟨g00, g01, g02⟩, ⟨g10, g11, g12⟩, f0, f1, f2⟩ := HKP.out _ hbb; have HB : Hid _ := hbb; clear hbb hb9))
  case' neg =>
    have hnn : (!ng) = false := by simpa using hq
    clear hq
    refine wp_region_held_drew (S := fun W => W.cell? ⟨w.heap.size, 0, none⟩ = some (.bool ng) ∧ W.cell? ⟨w.heap.size, 1, none⟩ = some (.slice va l.length vc) ∧ W.cell? ⟨w.heap.size, 2, none⟩ = some (.int .i64 sc)) (by kernel_rfl) ⟨g00, g01, g02⟩ (fun hHeld => ?_)
    refine wpAnyH_take (i := 0) (v := (.pointer (some ⟨w.heap.size, 0, none⟩))) rfl (by kernel_rfl) (by kernel_rfl) (by kernel_rfl) (fun _ _ _ h => h) (Or.inl ⟨by rfl, fun w' hSw => (by (try dsimp only at hSw); go_simp)⟩) (by assumption) ?_
    try simp only [Act.put, List.setIfInBounds_toArray, List.set_cons_zero, List.set_cons_succ]
    refine wpAnyH_take (i := 1) (v := (.bool ng)) rfl (by kernel_rfl) (by kernel_rfl) (by kernel_rfl) (fun _ _ _ h => h) (Or.inl ⟨by rfl, fun w' hSw => (by (try dsimp only at hSw); go_simp)⟩) (by assumption) ?_
    try simp only [Act.put, List.setIfInBounds_toArray, List.set_cons_zero, List.set_cons_succ]
    refine wpAnyH_take (i := 2) (v := (.bool false)) rfl (by kernel_rfl) (by kernel_rfl) (by kernel_rfl) (fun _ _ _ h => h) (Or.inl ⟨by rfl, fun w' hSw => (by (try dsimp only at hSw); go_simp)⟩) (by assumption) ?_
    try simp only [Act.put, List.setIfInBounds_toArray, List.set_cons_zero, List.set_cons_succ]
    refine wpAnyH_take (i := 3) (v := (.bool false)) rfl (by kernel_rfl) (by kernel_rfl) (by kernel_rfl) (fun _ _ _ h => h) (Or.inl ⟨by rfl, fun w' hSw => (by (try dsimp only at hSw); go_simp)⟩) (by assumption) ?_
    try simp only [Act.put, List.setIfInBounds_toArray, List.set_cons_zero, List.set_cons_succ]
    refine wpAnyH_take (i := 4) (v := undef) rfl (by kernel_rfl) (by kernel_rfl) (by kernel_rfl) (fun _ _ _ h => h) (Or.inr ⟨by rfl, rfl⟩) (by assumption) ?_
    try simp only [Act.put, List.setIfInBounds_toArray, List.set_cons_zero, List.set_cons_succ]
    refine wpAnyH_take (i := 5) (v := undef) rfl (by kernel_rfl) (by kernel_rfl) (by kernel_rfl) (fun _ _ _ h => h) (Or.inr ⟨by rfl, rfl⟩) (by assumption) ?_
    try simp only [Act.put, List.setIfInBounds_toArray, List.set_cons_zero, List.set_cons_succ]
    refine wpAnyH_take (i := 6) (v := undef) rfl (by kernel_rfl) (by kernel_rfl) (by kernel_rfl) (fun _ _ _ h => h) (Or.inr ⟨by rfl, rfl⟩) (by assumption) ?_
    try simp only [Act.put, List.setIfInBounds_toArray, List.set_cons_zero, List.set_cons_succ]
    refine wpAnyH_take (i := 7) (v := (.bool false)) rfl (by kernel_rfl) (by kernel_rfl) (by kernel_rfl) (fun _ _ _ h => h) (Or.inl ⟨by rfl, fun w' hSw => (by (try dsimp only at hSw); go_simp)⟩) (by assumption) ?_
    try simp only [Act.put, List.setIfInBounds_toArray, List.set_cons_zero, List.set_cons_succ]
    refine wpAnyH_take (i := 8) (v := (.pointer (some ⟨w.heap.size, 1, none⟩))) rfl (by kernel_rfl) (by kernel_rfl) (by kernel_rfl) (fun _ _ _ h => h) (Or.inl ⟨by rfl, fun w' hSw => (by (try dsimp only at hSw); go_simp)⟩) (by assumption) ?_
    try simp only [Act.put, List.setIfInBounds_toArray, List.set_cons_zero, List.set_cons_succ]
    refine wpAnyH_take (i := 9) (v := (.slice va l.length vc)) rfl (by kernel_rfl) (by kernel_rfl) (by kernel_rfl) (fun _ _ _ h => h) (Or.inl ⟨by rfl, fun w' hSw => (by (try dsimp only at hSw); go_simp)⟩) (by assumption) ?_
    try simp only [Act.put, List.setIfInBounds_toArray, List.set_cons_zero, List.set_cons_succ]
    refine wpAnyH_take (i := 11) (v := (.pointer (some ⟨w.heap.size, 2, none⟩))) rfl (by kernel_rfl) (by kernel_rfl) (by kernel_rfl) (fun _ _ _ h => h) (Or.inl ⟨by rfl, fun w' hSw => (by (try dsimp only at hSw); go_simp)⟩) (by assumption) ?_
    try simp only [Act.put, List.setIfInBounds_toArray, List.set_cons_zero, List.set_cons_succ]
    refine wpAnyH_take (i := 12) (v := (.int .i64 sc)) rfl (by kernel_rfl) (by kernel_rfl) (by kernel_rfl) (fun _ _ _ h => h) (Or.inl ⟨by rfl, fun w' hSw => (by (try dsimp only at hSw); go_simp)⟩) (by assumption) ?_
    try simp only [Act.put, List.setIfInBounds_toArray, List.set_cons_zero, List.set_cons_succ]
    refine wpAnyH_ready (rs := [10]) (by kernel_rfl) (by simp) ?_
    refine AllReadyH.cons rfl (fun K hK => ?_) AllReadyH.nil
    go_simp
    refine Calls.mono (HH.out.2.2.1 _ HB.out) ?_
    rintro e w9 ⟨a9, c9, rfl, hbt9, hbl9, hb9⟩
    have hbb := HB.out.trans (hb9.mono HB.out.size)
    have HC : Hid _ := And.intro hbt9 (And.intro hbl9 HB.out)
    clear hbt9 hbl9 HB g00 g01 g02 g10 g11 g12 f0 f1 f2 hHeld
    obtain ⟨⟨g00, g01, g02⟩, ⟨g10, g11, g12⟩, f0, f1, f2⟩ := HKP.out _ hbb
    have HB : Hid _ := hbb
    clear hbb hb9
    go_wp2_with fail
    refine hK.out _ _ ⟨g00, g01, g02⟩ (fun hHeld => ?_)
    clear hK K
    try simp only [Act.put, List.setIfInBounds_toArray, List.set_cons_zero, List.set_cons_succ]
    refine wpAnyH_take (i := 13) (v := (.agg #[.bool false, .slice a9 l.length c9, .int .i64 sc])) rfl (by kernel_rfl) (by kernel_rfl) (by kernel_rfl) (fun _ _ _ h => h) (Or.inl ⟨by rfl, fun w' hSw => (by (try dsimp only at hSw); go_simp)⟩) (by assumption) ?_
    try simp only [Act.put, List.setIfInBounds_toArray, List.set_cons_zero, List.set_cons_succ]
    refine wpAnyH_ready (rs := [14]) (by kernel_rfl) (by simp) ?_
    refine AllReadyH.cons rfl (fun K hK => ?_) AllReadyH.nil
    go_simp
    refine hK.out _ _ (by go_keep) (fun hHeld => ?_)
    clear hK K
    try simp only [Act.put, List.setIfInBounds_toArray, List.set_cons_zero, List.set_cons_succ]
    refine wpAnyH_done (by kernel_rfl) ?_ _
  case pos =>
    go_wp2_with fail
    have hX := (HB.out.block _ (lt_of HH.out.2.2.2.2.1)).trans HH.out.2.2.2.2.1
    have hbw := HH.out.2.2.2.1.trans (HB.out.mono HH.out.2.2.2.1.size)
    have hsz := HH.out.2.2.2.2.2
    have hsz2 := HC.out.2.2.size
    obtain ⟨q1, q2, q3, q4⟩ := set3 hbw (Nat.le_succ _) hX (.bool (!N)) (.slice a9 l.length c9) (.int .i64 sc)
    have hbt := HC.out.1.kept (Nat.le_of_eq q4.symm) q3 (fun k hk hn e => by have := (HC.out.2.1 k hk).1; omega)
    generalize (((w9.setCell ⟨w.heap.size + 1, 0, none⟩ (.bool (!N))).setCell ⟨w.heap.size + 1, 1, none⟩ (.slice a9 l.length c9)).setCell ⟨w.heap.size + 1, 2, none⟩ (.int .i64 sc)) = W9 at *
    obtain ⟨y0, y1, y2⟩ := bl3 q1
    exact bodyPost_ret (v := nmV (!N) (.slice a9 l.length c9) sc) (by simp [results, Tryd.results12, go_sem, y0, y1, y2]) rfl ⟨.slice a9 l.length c9, rfl, hbt, q2⟩
  case neg =>
    go_wp2_with fail
    have hX := (HB.out.block _ (lt_of HH.out.2.2.2.2.1)).trans HH.out.2.2.2.2.1
    have hbw := HH.out.2.2.2.1.trans (HB.out.mono HH.out.2.2.2.1.size)
    have hsz := HH.out.2.2.2.2.2
    have hsz2 := HC.out.2.2.size
    obtain ⟨q1, q2, q3, q4⟩ := set3 hbw (Nat.le_succ _) hX (.bool (false)) (.slice a9 l.length c9) (.int .i64 sc)
    have hbt := HC.out.1.kept (Nat.le_of_eq q4.symm) q3 (fun k hk hn e => by have := (HC.out.2.1 k hk).1; omega)
    generalize (((w9.setCell ⟨w.heap.size + 1, 0, none⟩ (.bool (false))).setCell ⟨w.heap.size + 1, 1, none⟩ (.slice a9 l.length c9)).setCell ⟨w.heap.size + 1, 2, none⟩ (.int .i64 sc)) = W9 at *
    obtain ⟨y0, y1, y2⟩ := bl3 q1
    exact bodyPost_ret (v := nmV (false) (.slice a9 l.length c9) sc) (by simp [results, Tryd.results12, go_sem, y0, y1, y2]) rfl ⟨.slice a9 l.length c9, by rw [hnn]; rfl, hbt, q2⟩
end Go.Proofs.YtakemkhgaicckaaDoor
