/- DecPairs: the walk. -/
import Derived.Test.YtakemkhgaicckaaL1
import Derived.Test.YtakemkhgaicckaaC2
import Derived.Test.YtakemkhgaicckaaC8
import Derived.Test.YtakemkhgaicckaaC6
import Derived.Test.YtakemkhgaicckaaC6s
import Derived.Deep.RegionHeld3
namespace Go.Proofs.Ytakemkhgaicckaa
open Go.RowKit
set_option linter.unusedVariables false

theorem tx_dg {n : Nm} (h : CN n) : ∀ d ∈ txS n, 0 ≤ d ∧ d < 256 := by
  intro d hd
  unfold txS at hd
  simp only [List.mem_append, List.mem_map] at hd
  rcases hd with hd | ⟨x, hx, rfl⟩ | hd
  · split at hd <;> simp at hd <;> omega
  · have := h.1.dg x (List.mem_of_mem_take hx); omega
  · split at hd
    · simp at hd
    · simp only [List.mem_cons, List.mem_map] at hd
      rcases hd with rfl | ⟨x, hx, rfl⟩
      · omega
      · have := h.1.dg x (List.mem_of_mem_drop hx); omega
theorem par_err {l : List Int} {x : Int} (h : parS l = .error x) : x = 2 ∨ x = 3 := by
  unfold parS at h
  split at h
  · simp at h; omega
  · split at h
    · simp at h; omega
    · split at h
      · simp at h; omega
      · simp at h
theorem AdP.ok {a b n : Nm} {w w' : World} {e : Ending} (h : AdP a b w e w') (ha : CN a) (hb : CN b) (hp : adS a b = .ok n) (hl : n.2.1.length ≤ 4096) : ∃ ad c, e = .returned (.tuple #[nmV n.1 (.slice ad n.2.1.length c) n.2.2, .int .i64 0]) ∧ NmR w' (.slice ad n.2.1.length c) n ∧ Below w.heap.size w w' := by
  obtain ⟨hbl, h2⟩ := h
  have hcn : CN n := by
    unfold adS at hp
    split at hp
    · simp at hp
    · have e : smS a b = n := by simpa using hp
      rw [← e]
      exact (sm_ok ha hb).1
  rw [hp] at h2
  obtain ⟨rv, rfl, ht⟩ := h2
  obtain ⟨ad, c, rfl, _⟩ := ht.form
  exact ⟨ad, c, rfl, ⟨ht, hcn, hl⟩, hbl⟩
theorem ad_ok {a b : Nm} (ha : CN a) (hb : CN b) (h1 : a.2.1.length ≤ 1300) (h2 : b.2.1.length ≤ 1300) : adS a b = .ok (smS a b) ∧ (smS a b).2.1.length ≤ 2602 := by
  have h := (sm_ok ha hb).2.2.2
  have la := ha.1.len
  have lb := hb.1.len
  have hx : hiX a b ≤ 1300 := by unfold hiX; omega
  have hs : hiS a b ≤ 1300 := by unfold hiS; omega
  refine ⟨?_, by omega⟩
  unfold adS
  rw [if_neg (by omega)]
theorem add_n (P : Prg) {w : World} {v v' : Value} {a b : Nm} (ha : NmR w v a) (hb : NmR w v' b) (h1 : a.2.1.length ≤ 1300) (h2 : b.2.1.length ≤ 1300) : Calls Try.prog 20 #[nmV a.1 v a.2.2, nmV b.1 v' b.2.2] w fun e w' => ∃ ad c, e = .returned (.tuple #[nmV (smS a b).1 (.slice ad (smS a b).2.1.length c) (smS a b).2.2, .int .i64 0]) ∧ NmR w' (.slice ad (smS a b).2.1.length c) (smS a b) ∧ Below w.heap.size w w' := by
  obtain ⟨q1, q2⟩ := ad_ok ha.cn hb.cn h1 h2
  exact Calls.mono (P.add ha hb) (fun e w' h => h.ok ha.cn hb.cn q1 (by omega))
theorem add_nr {w : World} {v v' : Value} {a b : Nm} (ha : NmR w v a) (hb : NmR w v' b) (h1 : a.2.1.length ≤ 1300) (h2 : b.2.1.length ≤ 1300) : Calls Try.prog 21 #[nmV a.1 v a.2.2, nmV b.1 v' b.2.2] w fun e w' => ∃ ad c, e = .returned (.tuple #[nmV (smS a b).1 (.slice ad (smS a b).2.1.length c) (smS a b).2.2, .int .i64 0]) ∧ NmR w' (.slice ad (smS a b).2.1.length c) (smS a b) ∧ Below w.heap.size w w' := by
  obtain ⟨q1, q2⟩ := ad_ok ha.cn hb.cn h1 h2
  exact Calls.mono (add_r ha hb) (fun e w' h => h.ok ha.cn hb.cn q1 (by omega))
theorem of_n {w : World} {v : Value} {n : Nm} (h : NmR w v n) : Calls Try.prog 12 #[nmV n.1 v n.2.2] w fun e w' => e = .returned (nmV n.1 v n.2.2) ∧ Below w.heap.size w w' := by
  obtain ⟨a, c, rfl, _⟩ := h.bt.form
  exact of_s n.1 a n.2.1.length c n.2.2
theorem right_n (P : Prg) {w : World} {v : Value} {n : Nm} (h : NmR w v n) (hl : n.2.1.length ≤ 4096) : Calls Try.prog 11 #[nmV n.1 v n.2.2] w fun e w' => e = .returned (.bool true) ∧ Below w.heap.size w w' := by
  have h1 := h.cn.1.len
  have := P.right h.bt n.1 n.2.2 (by omega) (by omega)
  rw [rg_ok h.cn hl] at this
  exact this
theorem lt_alloc (w : World) (o : Obj) : w.heap.size < (w.alloc o).heap.size := by rw [sza]; omega
theorem le_alloc {N : Nat} {w : World} (h : N ≤ w.heap.size) (o : Obj) : N ≤ (w.alloc o).heap.size := by rw [sza]; omega
/-- Digits don't lie in a number's box. -/
theorem BtR.ne {w : World} {v : Value} {l : List Int} {T : Nat} {b : Bool} {sl : Value} {z : Int} {t : TypeId} {a : Option Addr} {n c : Nat} (h : BtR w v l) (hT : w.heap[T]? = some (.cells #[.bool b, .slice a n c, .int .i64 z] t (0, 0))) : ∀ k, v.ownBlock = some k → l ≠ [] → k ≠ T := by
  obtain ⟨a1, cap, rfl, h1, h2, h3, h4⟩ := h
  intro k hk hn e
  rcases h4 with h4 | ⟨g, o, rfl, h5, h6⟩
  · exact hn h4
  · simp [Value.ownBlock] at hk
    subst hk
    subst e
    have hc := h6 0 (List.length_pos_iff.2 hn)
    simp only [World.cell?, hT] at hc
    rcases o with _ | _ | _ | o <;> simp at hc
/-- A number stored into a box. -/
theorem BxN.stored {w : World} {T : Nat} {t : TypeId} {n : Nm} {a a0 : Option Addr} {c n0 c0 : Nat} {b0 : Bool} {z0 : Int} (h : NmR w (.slice a n.2.1.length c) n) (hT : w.heap[T]? = some (.cells #[.bool b0, .slice a0 n0 c0, .int .i64 z0] t (0, 0))) (N : Nat) (hN : N ≤ T) :
    BxN (((w.setCell ⟨T, 0, none⟩ (.bool n.1)).setCell ⟨T, 1, none⟩ (.slice a n.2.1.length c)).setCell ⟨T, 2, none⟩ (.int .i64 n.2.2)) T t n a c ∧ Below N w (((w.setCell ⟨T, 0, none⟩ (.bool n.1)).setCell ⟨T, 1, none⟩ (.slice a n.2.1.length c)).setCell ⟨T, 2, none⟩ (.int .i64 n.2.2)) := by
  obtain ⟨q1, q2, q3, q4⟩ := set3 (Below.refl N w) hN hT (.bool n.1) (.slice a n.2.1.length c) (.int .i64 n.2.2)
  exact ⟨⟨⟨h.bt.kept (Nat.le_of_eq q4.symm) q3 (h.bt.ne (sl := .bool true) hT), h.cn, h.le⟩, q1⟩, q2⟩
/-- A text parsed, either way. -/
theorem parse_n (P : Prg) (s : ByteArray) (w : World) (hs : s.size ≤ 600) : Calls Try.prog 8 #[.string s] w fun e w' => Below w.heap.size w w' ∧ ((∃ n a c, parS (bl s) = .ok n ∧ n.2.1.length ≤ 600 ∧ e = .returned (.tuple #[nmV n.1 (.slice a n.2.1.length c) n.2.2, .int .i64 0]) ∧ NmR w' (.slice a n.2.1.length c) n) ∨ (∃ x a c, (x = 2 ∨ x = 3) ∧ parS (bl s) = .error x ∧ e = .returned (.tuple #[nmV false (.slice a 0 c) 0, .int .i64 x]) ∧ BtR w' (.slice a 0 c) [])) := by
  refine Calls.mono (P.parse s w (by unfold maxLen; omega)) ?_
  intro e w' h
  cases hp : parS (bl s) with
  | error x =>
    obtain ⟨a, c, h1, h2, h3⟩ := h.no hp
    exact ⟨h3, .inr ⟨x, a, c, par_err hp, rfl, h1, h2⟩⟩
  | ok n =>
    have hl : n.2.1.length ≤ 600 := by
      have h2 := (par_ok hp).2.1
      rw [bl_len] at h2
      omega
    obtain ⟨a, c, h1, h2, h3⟩ := h.ok hp (by omega)
    exact ⟨h3, .inl ⟨n, a, c, rfl, hl, h1, h2⟩⟩
set_option maxRecDepth 100000 in
set_option maxHeartbeats 6400000 in
theorem pairs_s (P : Prg) (s t : ByteArray) (w : World) (hs : s.size ≤ maxLen) (ht : t.size ≤ maxLen) : Calls Try.prog 4 #[.string s, .string t] w fun e w' => e = .returned (.bool true) ∧ Below w.heap.size w w' := by
  unfold maxLen at hs ht
  have HP : Hid _ := P
  clear P
  by_cases hsb : 600 < (s.size : Int)
  · go_enter Try.func4, Try.ntmps4
    go_wp2_with (first | (go_at_call 7; refine Calls.mono (known_s HP.out _) ?_; rintro e w0 ⟨rfl, hb0⟩))
    go_ret
    exact ⟨rfl, hb0⟩
  by_cases htb : 600 < (t.size : Int)
  · go_enter Try.func4, Try.ntmps4
    go_wp2_with (first | (go_at_call 7; refine Calls.mono (known_s HP.out _) ?_; rintro e w0 ⟨rfl, hb0⟩))
    go_ret
    exact ⟨rfl, hb0⟩
  go_enter Try.func4, Try.ntmps4
  go_wp2_with (first | (go_at_call 7; refine Calls.mono (known_s HP.out _) ?_; rintro e w0 ⟨rfl, hb0⟩))
  refine Calls.mono (parse_n HP.out s _ (by omega)) ?_
  rintro e w1 ⟨hb1, hr1⟩
  have hb01 := hb0.trans (hb1.mono hb0.size)
  rcases hr1 with ⟨nA, a1, c1, hpA, hlA, rfl, hnA⟩ | ⟨x, a1, c1, hx, hpA, rfl, hbt⟩
  case' inr =>
    have hxn : ¬ x = 0 := by omega
    have hxb : (x == 0) = false := by simpa using hxn
    have hxc : (x != 0) = true := by simpa using hxn
    clear hpA hbt hx hxn
    have HB1 : Hid _ := hb01
    clear hb01 hb1 hb0
    go_wp2_with fail
    refine Calls.mono (parse_n HP.out t _ (by omega)) ?_
    rintro e w2 ⟨hb2, hr2⟩
    have hbb : Below w.heap.size w w2 := (HB1.out.alloc HB1.out.size _).trans (hb2.mono (by have := HB1.out.size; simp only [sza]; omega))
    rcases hr2 with ⟨nB, a2, c2, hpB, hlB, rfl, hnB⟩ | ⟨y, a2, c2, hy, hpB, rfl, hbt⟩
    · clear hpB hnB
      have HB2 : Hid _ := hbb
      clear hbb hb2
      go_wp2_with fail
      go_ret
      exact ⟨rfl, HB2.out.alloc HB2.out.size _⟩
    · clear hpB hbt hy
      have HB2 : Hid _ := hbb
      clear hbb hb2
      go_wp2_with fail
      go_ret
      exact ⟨rfl, HB2.out.alloc HB2.out.size _⟩
  obtain ⟨hx1, hba1⟩ := BxN.mk' (t := 25) hnA
  have H1 : Hid _ := And.intro hx1 (And.intro (hb01.trans (hba1.mono hb01.size)) hpA)
  clear hb01 hb1 hb0 hnA hx1 hba1 hpA
  go_wp2_with fail
  generalize (w1.alloc (.cells #[.bool nA.1, .slice a1 nA.2.1.length c1, .int .i64 nA.2.2] 25)) = U1 at *
  refine Calls.mono (parse_n HP.out t _ (by omega)) ?_
  rintro e w2 ⟨hb2, hr2⟩
  rcases hr2 with ⟨nB, a2, c2, hpB, hlB, rfl, hnB⟩ | ⟨y, a2, c2, hy, hpB, rfl, hbt⟩
  case' inr =>
    have hyn : ¬ y = 0 := by omega
    have hyb : (y == 0) = false := by simpa using hyn
    have hyc : (y != 0) = true := by simpa using hyn
    clear hpB hbt hy hyn
    have HB2 : Hid _ := H1.out.2.1.trans (hb2.mono H1.out.2.1.size)
    clear hb2
    go_wp2_with fail
    go_ret
    exact ⟨rfl, HB2.out.alloc HB2.out.size _⟩
  obtain ⟨hx2, hba2⟩ := BxN.mk' (t := 25) hnB
  have hbU2 := hb2.trans (hba2.mono hb2.size)
  have H2 : Hid _ := And.intro (H1.out.1.below hbU2) (And.intro hx2 (And.intro (H1.out.2.1.trans (hbU2.mono H1.out.2.1.size)) (And.intro H1.out.2.2 hpB)))
  clear hnB hb2 hx2 hba2 hbU2 H1 hpB
  obtain ⟨k10, k11, k12⟩ := bl3 H2.out.1.bx
  obtain ⟨k20, k21, k22⟩ := bl3 H2.out.2.1.bx
  go_wp2_with fail
  generalize (w2.alloc (.cells #[.bool nB.1, .slice a2 nB.2.1.length c2, .int .i64 nB.2.2] 25)) = U2 at *
  refine Calls.mono (add_n HP.out H2.out.1.nm H2.out.2.1.nm (by omega) (by omega)) ?_
  rintro e w3 ⟨a3, c3, rfl, hn3, hb3⟩
  generalize hnC : smS nA nB = nC at *
  have hlC : nC.2.1.length ≤ 1201 := by
    have h := (sm_ok H2.out.1.nm.cn H2.out.2.1.nm.cn).2.2.2
    have la := H2.out.1.nm.cn.1.len
    have lb := H2.out.2.1.nm.cn.1.len
    rw [hnC] at h
    have hx : hiX nA nB ≤ 600 := by unfold hiX; omega
    have hs' : hiS nA nB ≤ 600 := by unfold hiS; omega
    omega
  obtain ⟨hx3, hba3⟩ := BxN.mk' (t := 25) hn3
  have hbU3 := hb3.trans (hba3.mono hb3.size)
  have H3 : Hid _ := And.intro (H2.out.1.below hbU3) (And.intro (H2.out.2.1.below hbU3) (And.intro hx3 (And.intro (H2.out.2.2.1.trans (hbU3.mono H2.out.2.2.1.size)) (And.intro hnC H2.out.2.2.2))))
  clear hn3 hb3 hx3 hba3 hbU3 H2 k10 k11 k12 k20 k21 k22 hnC
  go_upto_region 10 with fail
  generalize (w3.alloc (.cells #[.bool nC.1, .slice a3 nC.2.1.length c3, .int .i64 nC.2.2] 25)) = U3 at *
  have HB : Hid (Below U3.heap.size U3 U3.drew) := Below.drewN' 1
  have hkp : ∀ W, Below U3.heap.size U3 W → (W.cell? ⟨w1.heap.size, 0, none⟩ = some (.bool nA.1) ∧ W.cell? ⟨w1.heap.size, 1, none⟩ = some (.slice a1 nA.2.1.length c1) ∧ W.cell? ⟨w1.heap.size, 2, none⟩ = some (.int .i64 nA.2.2)) ∧ (W.cell? ⟨w2.heap.size, 0, none⟩ = some (.bool nB.1) ∧ W.cell? ⟨w2.heap.size, 1, none⟩ = some (.slice a2 nB.2.1.length c2) ∧ W.cell? ⟨w2.heap.size, 2, none⟩ = some (.int .i64 nB.2.2)) ∧ (W.cell? ⟨w3.heap.size, 0, none⟩ = some (.bool nC.1) ∧ W.cell? ⟨w3.heap.size, 1, none⟩ = some (.slice a3 nC.2.1.length c3) ∧ W.cell? ⟨w3.heap.size, 2, none⟩ = some (.int .i64 nC.2.2)) := fun W hb => ⟨boxK H3.out.1.bx W hb, boxK H3.out.2.1.bx W hb, boxK H3.out.2.2.1.bx W hb⟩
  have HKP : Hid _ := hkp
  obtain ⟨⟨g00, g01, g02⟩, ⟨g10, g11, g12⟩, ⟨g20, g21, g22⟩⟩ := hkp U3 (Below.refl _ _)
  clear hkp
  have hne : ∀ W, Below U3.heap.size U3 W → W.heap.size ≠ w1.heap.size ∧ W.heap.size ≠ w2.heap.size ∧ W.heap.size ≠ w3.heap.size ∧ w1.heap.size ≠ W.heap.size ∧ w2.heap.size ≠ W.heap.size ∧ w3.heap.size ≠ W.heap.size := fun W hb => by
    have e1 := lt_of H3.out.1.bx
    have e2 := lt_of H3.out.2.1.bx
    have e3 := lt_of H3.out.2.2.1.bx
    have e4 := hb.size
    refine ⟨?_, ?_, ?_, ?_, ?_, ?_⟩ <;> omega
  have HNE : Hid _ := hne
  have HBZ : Hid (Below U3.heap.size U3 (U3.alloc (.cells #[.bool false, .slice none 0 0, .int .i64 0] 29)).drew) := ((Below.refl U3.heap.size U3).alloc (Nat.le_refl _) (.cells #[.bool false, .slice none 0 0, .int .i64 0] 29)).trans ((Below.drewN' (w := U3.alloc (.cells #[.bool false, .slice none 0 0, .int .i64 0] 29)) 1).mono (Nat.le_of_lt (lt_alloc _ _)))
  obtain ⟨ne0, ne1, ne2, ne3, ne4, ne5⟩ := hne U3.drew HB.out
  obtain ⟨nu0, nu1, nu2, nu3, nu4, nu5⟩ := hne U3 (Below.refl _ _)
  clear hne
  have q1 := fun W (hb : Below U3.heap.size U3 W) => of_n (H3.out.1.below hb).nm
  have q2 := fun W (hb : Below U3.heap.size U3 W) => of_n (H3.out.2.1.below hb).nm
  have q3 := fun W (hb : Below U3.heap.size U3 W) => add_nr (H3.out.1.below hb).nm (H3.out.2.1.below hb).nm (by omega) (by omega)
  rw [H3.out.2.2.2.2.1] at q3
  have HC : Hid _ := And.intro q1 (And.intro q2 (q3))
  clear q1 q2 q3
  go_cut [11, 12] (fun v11 v12 wx => ∃ (T4 : Nat) (a4 : Option Addr) (c4 : Nat), v11 = .pointer (some ⟨T4, 0, none⟩) ∧ v12 = .int .i64 0 ∧ BxN wx T4 29 nC a4 c4 ∧ Below U3.heap.size U3 wx)
  case first =>
    go_region_held3 (fun W => W.cell? ⟨w1.heap.size, 0, none⟩ = some (.bool nA.1) ∧ W.cell? ⟨w1.heap.size, 1, none⟩ = some (.slice a1 nA.2.1.length c1) ∧ W.cell? ⟨w1.heap.size, 2, none⟩ = some (.int .i64 nA.2.2) ∧ W.cell? ⟨w2.heap.size, 0, none⟩ = some (.bool nB.1) ∧ W.cell? ⟨w2.heap.size, 1, none⟩ = some (.slice a2 nB.2.1.length c2) ∧ W.cell? ⟨w2.heap.size, 2, none⟩ = some (.int .i64 nB.2.2) ∧ W.cell? ⟨w3.heap.size, 0, none⟩ = some (.bool nC.1) ∧ W.cell? ⟨w3.heap.size, 1, none⟩ = some (.slice a3 nC.2.1.length c3) ∧ W.cell? ⟨w3.heap.size, 2, none⟩ = some (.int .i64 nC.2.2)) (first | exact ⟨g00, g01, g02, g10, g11, g12, g20, g21, g22⟩  | go_keep) (first
      | (go_at_call 12; (with_reducible refine Calls.mono (HC.out.1 _ HB.out) ?_); rintro e w9 ⟨rfl, hb9⟩; have hbb := HB.out.trans (hb9.mono HB.out.size); obtain ⟨⟨g00, g01, g02⟩, ⟨g10, g11, g12⟩, ⟨g20, g21, g22⟩⟩ := HKP.out _ hbb; (first | (have HZ : Hid _ := (hb9.block _ (lt_of HZ.out)).trans HZ.out; obtain ⟨z0, z1, z2⟩ := bl3 HZ.out; obtain ⟨zf0, zf1, zf2⟩ := bl3f HZ.out) | skip); have HB : Hid _ := hbb; obtain ⟨ne0, ne1, ne2, ne3, ne4, ne5⟩ := HNE.out _ HB.out; clear hbb hb9)
      | (go_at_call 12; (with_reducible refine Calls.mono (HC.out.1 _ (HB.out.alloc HB.out.size (.cells #[.bool false, .slice none 0 0, .int .i64 0] 29))) ?_); rintro e w9 ⟨rfl, hb9⟩; have hbb := (HB.out.alloc HB.out.size (.cells #[.bool false, .slice none 0 0, .int .i64 0] 29)).trans (hb9.mono (le_alloc HB.out.size _)); have HT : Hid _ := And.intro HB.out.size trivial; obtain ⟨⟨g00, g01, g02⟩, ⟨g10, g11, g12⟩, ⟨g20, g21, g22⟩⟩ := HKP.out _ hbb; have HZ : Hid _ := (hb9.block _ (lt_alloc _ _)).trans (nw_heap _ (.cells #[.bool false, .slice none 0 0, .int .i64 0] 29)); obtain ⟨z0, z1, z2⟩ := bl3 HZ.out; obtain ⟨zf0, zf1, zf2⟩ := bl3f HZ.out; have HB : Hid _ := hbb; obtain ⟨ne0, ne1, ne2, ne3, ne4, ne5⟩ := HNE.out _ HB.out; clear hbb hb9)
      | (go_at_call 12; (with_reducible refine Calls.mono (HC.out.1 _ HBZ.out) ?_); rintro e w9 ⟨rfl, hb9⟩; have hbb := HBZ.out.trans (hb9.mono HBZ.out.size); obtain ⟨⟨g00, g01, g02⟩, ⟨g10, g11, g12⟩, ⟨g20, g21, g22⟩⟩ := HKP.out _ hbb; have HZ : Hid _ := (hb9.block U3.heap.size (lt_alloc U3 (.cells #[.bool false, .slice none 0 0, .int .i64 0] 29))).trans (nw_heap U3 (.cells #[.bool false, .slice none 0 0, .int .i64 0] 29)); obtain ⟨z0, z1, z2⟩ := bl3 HZ.out; obtain ⟨zf0, zf1, zf2⟩ := bl3f HZ.out; have HB : Hid _ := hbb; obtain ⟨ne0, ne1, ne2, ne3, ne4, ne5⟩ := HNE.out _ HB.out; clear hbb hb9)
      | (go_at_call 12; (with_reducible refine Calls.mono (HC.out.2.1 _ HB.out) ?_); rintro e w9 ⟨rfl, hb9⟩; have hbb := HB.out.trans (hb9.mono HB.out.size); obtain ⟨⟨g00, g01, g02⟩, ⟨g10, g11, g12⟩, ⟨g20, g21, g22⟩⟩ := HKP.out _ hbb; (first | (have HZ : Hid _ := (hb9.block _ (lt_of HZ.out)).trans HZ.out; obtain ⟨z0, z1, z2⟩ := bl3 HZ.out; obtain ⟨zf0, zf1, zf2⟩ := bl3f HZ.out) | skip); have HB : Hid _ := hbb; obtain ⟨ne0, ne1, ne2, ne3, ne4, ne5⟩ := HNE.out _ HB.out; clear hbb hb9)
      | (go_at_call 12; (with_reducible refine Calls.mono (HC.out.2.1 _ (HB.out.alloc HB.out.size (.cells #[.bool false, .slice none 0 0, .int .i64 0] 29))) ?_); rintro e w9 ⟨rfl, hb9⟩; have hbb := (HB.out.alloc HB.out.size (.cells #[.bool false, .slice none 0 0, .int .i64 0] 29)).trans (hb9.mono (le_alloc HB.out.size _)); have HT : Hid _ := And.intro HB.out.size trivial; obtain ⟨⟨g00, g01, g02⟩, ⟨g10, g11, g12⟩, ⟨g20, g21, g22⟩⟩ := HKP.out _ hbb; have HZ : Hid _ := (hb9.block _ (lt_alloc _ _)).trans (nw_heap _ (.cells #[.bool false, .slice none 0 0, .int .i64 0] 29)); obtain ⟨z0, z1, z2⟩ := bl3 HZ.out; obtain ⟨zf0, zf1, zf2⟩ := bl3f HZ.out; have HB : Hid _ := hbb; obtain ⟨ne0, ne1, ne2, ne3, ne4, ne5⟩ := HNE.out _ HB.out; clear hbb hb9)
      | (go_at_call 12; (with_reducible refine Calls.mono (HC.out.2.1 _ HBZ.out) ?_); rintro e w9 ⟨rfl, hb9⟩; have hbb := HBZ.out.trans (hb9.mono HBZ.out.size); obtain ⟨⟨g00, g01, g02⟩, ⟨g10, g11, g12⟩, ⟨g20, g21, g22⟩⟩ := HKP.out _ hbb; have HZ : Hid _ := (hb9.block U3.heap.size (lt_alloc U3 (.cells #[.bool false, .slice none 0 0, .int .i64 0] 29))).trans (nw_heap U3 (.cells #[.bool false, .slice none 0 0, .int .i64 0] 29)); obtain ⟨z0, z1, z2⟩ := bl3 HZ.out; obtain ⟨zf0, zf1, zf2⟩ := bl3f HZ.out; have HB : Hid _ := hbb; obtain ⟨ne0, ne1, ne2, ne3, ne4, ne5⟩ := HNE.out _ HB.out; clear hbb hb9)
      | (go_at_call 21; (with_reducible refine Calls.mono (HC.out.2.2 _ HB.out) ?_); rintro e w9 ⟨a4, c4, rfl, hn4, hb9⟩; have hbb := HB.out.trans (hb9.mono HB.out.size); obtain ⟨⟨g00, g01, g02⟩, ⟨g10, g11, g12⟩, ⟨g20, g21, g22⟩⟩ := HKP.out _ hbb; (first | (have HZ : Hid _ := (hb9.block _ (lt_of HZ.out)).trans HZ.out; obtain ⟨z0, z1, z2⟩ := bl3 HZ.out; obtain ⟨zf0, zf1, zf2⟩ := bl3f HZ.out) | skip); have HB : Hid _ := hbb; obtain ⟨ne0, ne1, ne2, ne3, ne4, ne5⟩ := HNE.out _ HB.out; have HN4 : Hid _ := And.intro hn4 trivial; clear hn4; clear hbb hb9)
      | (go_at_call 21; (with_reducible refine Calls.mono (HC.out.2.2 _ (HB.out.alloc HB.out.size (.cells #[.bool false, .slice none 0 0, .int .i64 0] 29))) ?_); rintro e w9 ⟨a4, c4, rfl, hn4, hb9⟩; have hbb := (HB.out.alloc HB.out.size (.cells #[.bool false, .slice none 0 0, .int .i64 0] 29)).trans (hb9.mono (le_alloc HB.out.size _)); have HT : Hid _ := And.intro HB.out.size trivial; obtain ⟨⟨g00, g01, g02⟩, ⟨g10, g11, g12⟩, ⟨g20, g21, g22⟩⟩ := HKP.out _ hbb; have HZ : Hid _ := (hb9.block _ (lt_alloc _ _)).trans (nw_heap _ (.cells #[.bool false, .slice none 0 0, .int .i64 0] 29)); obtain ⟨z0, z1, z2⟩ := bl3 HZ.out; obtain ⟨zf0, zf1, zf2⟩ := bl3f HZ.out; have HB : Hid _ := hbb; obtain ⟨ne0, ne1, ne2, ne3, ne4, ne5⟩ := HNE.out _ HB.out; have HN4 : Hid _ := And.intro hn4 trivial; clear hn4; clear hbb hb9)
      | (go_at_call 21; (with_reducible refine Calls.mono (HC.out.2.2 _ HBZ.out) ?_); rintro e w9 ⟨a4, c4, rfl, hn4, hb9⟩; have hbb := HBZ.out.trans (hb9.mono HBZ.out.size); obtain ⟨⟨g00, g01, g02⟩, ⟨g10, g11, g12⟩, ⟨g20, g21, g22⟩⟩ := HKP.out _ hbb; have HZ : Hid _ := (hb9.block U3.heap.size (lt_alloc U3 (.cells #[.bool false, .slice none 0 0, .int .i64 0] 29))).trans (nw_heap U3 (.cells #[.bool false, .slice none 0 0, .int .i64 0] 29)); obtain ⟨z0, z1, z2⟩ := bl3 HZ.out; obtain ⟨zf0, zf1, zf2⟩ := bl3f HZ.out; have HB : Hid _ := hbb; obtain ⟨ne0, ne1, ne2, ne3, ne4, ne5⟩ := HNE.out _ HB.out; have HN4 : Hid _ := And.intro hn4 trivial; clear hn4; clear hbb hb9))
    all_goals
      go_wp2_with fail
      go_meet
      case rel =>
        first
          | (obtain ⟨z, hz⟩ := BxN.mk' (t := 29) HN4.out.1; exact ⟨_, a4, c4, rfl, rfl, z, HB.out.trans (hz.mono HB.out.size)⟩)
          | (obtain ⟨z, hz⟩ := BxN.stored HN4.out.1 HZ.out U3.heap.size (by first | exact HT.out.1 | exact Nat.le_refl _); exact ⟨_, a4, c4, rfl, rfl, z, HB.out.trans hz⟩)
  case rest =>
    obtain ⟨T4, a4, c4, rfl, rfl, hx4, hb4⟩ := hcut
    clear HC HKP HB HNE HBZ ne0 ne1 ne2 ne3 ne4 ne5 nu0 nu1 nu2 nu3 nu4 nu5 g00 g01 g02 g10 g11 g12 g20 g21 g22
    have hcA := H3.out.1.nm.cn
    have hcB := H3.out.2.1.nm.cn
    have hlt : (txS nA).length ≤ 4096 := by have := tx_len nA hcA; omega
    obtain ⟨tA, hA⟩ : ∃ tA, sb (txS nA) = tA := ⟨_, rfl⟩
    obtain ⟨tB, hB⟩ : ∃ tB, sb (txS nB) = tB := ⟨_, rfl⟩
    obtain ⟨k, hk⟩ : ∃ k, cmpS nA nB = k := ⟨_, rfl⟩
    obtain ⟨m, hm⟩ : ∃ m, cmpS nB nA = m := ⟨_, rfl⟩
    have hcase : (k = 0 ∧ m = 0 ∧ tA.toList = tB.toList) ∨ (k = 1 ∧ m = -1 ∧ ¬ tA.toList = tB.toList) ∨ (k = -1 ∧ m = 1 ∧ ¬ tA.toList = tB.toList) := by
      have hx := cmp_anti hcA hcB
      rw [hk, hm] at hx
      by_cases hab : nA = nB
      · have h0 := (cmp_zero hcA hcB).2 hab
        refine .inl ⟨by omega, by omega, ?_⟩
        rw [← hA, ← hB, hab]
      · have h0 : ¬ cmpS nA nB = 0 := fun h => hab ((cmp_zero hcA hcB).1 h)
        have ht : ¬ tA.toList = tB.toList := by
          intro he
          have he := (tl_eq _ _).1 he
          rw [← hA, ← hB] at he
          exact hab (tx_inj hcA hcB hlt (by have h9 := congrArg bl he; rwa [bl_sb (tx_dg hcA), bl_sb (tx_dg hcB)] at h9))
        rcases cmp_at hcA hcB (S := max nA.2.2 nB.2.2) (by omega) (by omega) with h | h | h
        · exact .inr (.inr ⟨by omega, by omega, ht⟩)
        · omega
        · exact .inr (.inl ⟨by omega, by omega, ht⟩)
    have hsm : smS nB nA = nC := by rw [← sm_comm hcA hcB]; exact H3.out.2.2.2.2.1
    have h1 := H3.out.1.below hb4
    have h2 := H3.out.2.1.below hb4
    have h3 := H3.out.2.2.1.below hb4
    have h0 := H3.out.2.2.2.1.trans (hb4.mono H3.out.2.2.2.1.size)
    clear H3 hb4
    obtain ⟨k10, k11, k12⟩ := bl3 h1.bx
    obtain ⟨k20, k21, k22⟩ := bl3 h2.bx
    have q1 := add_n HP.out h2.nm h1.nm (by omega) (by omega)
    rw [hsm] at q1
    have HQ : Hid _ := And.intro q1 trivial
    have H4 : Hid _ := And.intro h1 (And.intro h2 (And.intro h3 (And.intro hx4 (And.intro h0 trivial))))
    clear q1 h1 h2 h3 hx4 h0 hsm
    go_wp2_with fail
    refine Calls.mono HQ.out.1 ?_
    rintro e w5 ⟨a5, c5, rfl, hn5, hb5⟩
    obtain ⟨hx5, hba5⟩ := BxN.mk' (t := 25) hn5
    have hbU5 := hb5.trans (hba5.mono hb5.size)
    have g1 := H4.out.1.below hbU5
    have g2 := H4.out.2.1.below hbU5
    have g3 := H4.out.2.2.1.below hbU5
    have g4 := H4.out.2.2.2.1.below hbU5
    have g0 := H4.out.2.2.2.2.1.trans (hbU5.mono H4.out.2.2.2.2.1.size)
    clear k10 k11 k12 k20 k21 k22
    obtain ⟨k10, k11, k12⟩ := bl3 g1.bx
    obtain ⟨k20, k21, k22⟩ := bl3 g2.bx
    have q1 := HP.out.cmp g1.nm g2.nm
    rw [hk] at q1
    have H5 : Hid _ := And.intro g1 (And.intro g2 (And.intro g3 (And.intro g4 (And.intro hx5 (And.intro g0 q1)))))
    clear q1 g1 g2 g3 g4 g0 hx5 hb5 hba5 hbU5 hn5 H4 HQ
    go_wp2_with fail
    generalize (w5.alloc (.cells #[.bool nC.1, .slice a5 nC.2.1.length c5, .int .i64 nC.2.2] 25)) = U5 at *
    refine Calls.mono H5.out.2.2.2.2.2.2 ?_
    rintro e w6 ⟨rfl, hb6⟩
    have g1 := H5.out.1.below hb6
    have g2 := H5.out.2.1.below hb6
    have g3 := H5.out.2.2.1.below hb6
    have g4 := H5.out.2.2.2.1.below hb6
    have g5 := H5.out.2.2.2.2.1.below hb6
    have g0 := H5.out.2.2.2.2.2.1.trans (hb6.mono H5.out.2.2.2.2.2.1.size)
    clear k10 k11 k12 k20 k21 k22 H5 hb6
    have H6 : Hid _ := And.intro g1 (And.intro g2 (And.intro g3 (And.intro g4 (And.intro g5 g0))))
    clear g1 g2 g3 g4 g5 g0
    go_upto_region 13 with fail
    have HB : Hid (Below w6.heap.size w6 w6.drew) := Below.drewN' 1
    have hkp : ∀ W, Below w6.heap.size w6 W → (W.cell? ⟨w1.heap.size, 0, none⟩ = some (.bool nA.1) ∧ W.cell? ⟨w1.heap.size, 1, none⟩ = some (.slice a1 nA.2.1.length c1) ∧ W.cell? ⟨w1.heap.size, 2, none⟩ = some (.int .i64 nA.2.2)) ∧ (W.cell? ⟨w2.heap.size, 0, none⟩ = some (.bool nB.1) ∧ W.cell? ⟨w2.heap.size, 1, none⟩ = some (.slice a2 nB.2.1.length c2) ∧ W.cell? ⟨w2.heap.size, 2, none⟩ = some (.int .i64 nB.2.2)) ∧ (W.cell? ⟨w3.heap.size, 0, none⟩ = some (.bool nC.1) ∧ W.cell? ⟨w3.heap.size, 1, none⟩ = some (.slice a3 nC.2.1.length c3) ∧ W.cell? ⟨w3.heap.size, 2, none⟩ = some (.int .i64 nC.2.2)) ∧ (W.cell? ⟨T4, 0, none⟩ = some (.bool nC.1) ∧ W.cell? ⟨T4, 1, none⟩ = some (.slice a4 nC.2.1.length c4) ∧ W.cell? ⟨T4, 2, none⟩ = some (.int .i64 nC.2.2)) ∧ (W.cell? ⟨w5.heap.size, 0, none⟩ = some (.bool nC.1) ∧ W.cell? ⟨w5.heap.size, 1, none⟩ = some (.slice a5 nC.2.1.length c5) ∧ W.cell? ⟨w5.heap.size, 2, none⟩ = some (.int .i64 nC.2.2)) := fun W hb => ⟨boxK H6.out.1.bx W hb, boxK H6.out.2.1.bx W hb, boxK H6.out.2.2.1.bx W hb, boxK H6.out.2.2.2.1.bx W hb, boxK H6.out.2.2.2.2.1.bx W hb⟩
    have HKP : Hid _ := hkp
    obtain ⟨⟨g00, g01, g02⟩, ⟨g10, g11, g12⟩, ⟨g20, g21, g22⟩, ⟨g30, g31, g32⟩, ⟨g40, g41, g42⟩⟩ := hkp w6 (Below.refl _ _)
    clear hkp
    have q1 := fun W (hb : Below w6.heap.size w6 W) => same_s (H6.out.2.2.1.below hb).nm.bt (H6.out.2.2.2.1.below hb).nm.bt nC.1 nC.2.2
    have q2 := fun W (hb : Below w6.heap.size w6 W) => same_s (H6.out.2.2.2.2.1.below hb).nm.bt (H6.out.2.2.2.1.below hb).nm.bt nC.1 nC.2.2
    have q3 := fun W (hb : Below w6.heap.size w6 W) => of_n (H6.out.1.below hb).nm
    have q4 := fun W (hb : Below w6.heap.size w6 W) => of_n (H6.out.2.1.below hb).nm
    have q5 := fun W (hb : Below w6.heap.size w6 W) => cmp_r (H6.out.1.below hb).nm (H6.out.2.1.below hb).nm
    have q6 := fun W (hb : Below w6.heap.size w6 W) => HP.out.cmp (H6.out.2.1.below hb).nm (H6.out.1.below hb).nm
    have q7 := fun W (hb : Below w6.heap.size w6 W) => text_as HP.out (H6.out.1.below hb).nm hA
    have q8 := fun W (hb : Below w6.heap.size w6 W) => text_as HP.out (H6.out.2.1.below hb).nm hB
    have q9 := fun W (hb : Below w6.heap.size w6 W) => right_n HP.out (H6.out.2.2.1.below hb).nm (by omega)
    rw [hk] at q5
    rw [hm] at q6
    have HC : Hid _ := And.intro q1 (And.intro q2 (And.intro q3 (And.intro q4 (And.intro q5 (And.intro q6 (And.intro q7 (And.intro q8 (q9))))))))
    clear q1 q2 q3 q4 q5 q6 q7 q8 q9 hk hm hA hB hcA hcB hlt
    have hw0 : IntKind.i64.wrap 0 = 0 := by decide
    have hw1 : IntKind.i64.wrap (-1) = -1 := by decide
    have hw2 : IntKind.i64.wrap 1 = 1 := by decide
    rcases hcase with ⟨rfl, rfl, hte⟩ | ⟨rfl, rfl, hte⟩ | ⟨rfl, rfl, hte⟩
    case' inl => have hbq : (tA.toList == tB.toList) = true := by simpa using hte
    case' inr.inl => have hbq : (tA.toList == tB.toList) = false := by simpa using hte
    case' inr.inr => have hbq : (tA.toList == tB.toList) = false := by simpa using hte
    all_goals
      go_region_held3 (fun W => W.cell? ⟨w1.heap.size, 0, none⟩ = some (.bool nA.1) ∧ W.cell? ⟨w1.heap.size, 1, none⟩ = some (.slice a1 nA.2.1.length c1) ∧ W.cell? ⟨w1.heap.size, 2, none⟩ = some (.int .i64 nA.2.2) ∧ W.cell? ⟨w2.heap.size, 0, none⟩ = some (.bool nB.1) ∧ W.cell? ⟨w2.heap.size, 1, none⟩ = some (.slice a2 nB.2.1.length c2) ∧ W.cell? ⟨w2.heap.size, 2, none⟩ = some (.int .i64 nB.2.2) ∧ W.cell? ⟨w3.heap.size, 0, none⟩ = some (.bool nC.1) ∧ W.cell? ⟨w3.heap.size, 1, none⟩ = some (.slice a3 nC.2.1.length c3) ∧ W.cell? ⟨w3.heap.size, 2, none⟩ = some (.int .i64 nC.2.2) ∧ W.cell? ⟨T4, 0, none⟩ = some (.bool nC.1) ∧ W.cell? ⟨T4, 1, none⟩ = some (.slice a4 nC.2.1.length c4) ∧ W.cell? ⟨T4, 2, none⟩ = some (.int .i64 nC.2.2) ∧ W.cell? ⟨w5.heap.size, 0, none⟩ = some (.bool nC.1) ∧ W.cell? ⟨w5.heap.size, 1, none⟩ = some (.slice a5 nC.2.1.length c5) ∧ W.cell? ⟨w5.heap.size, 2, none⟩ = some (.int .i64 nC.2.2)) (exact ⟨g00, g01, g02, g10, g11, g12, g20, g21, g22, g30, g31, g32, g40, g41, g42⟩ ) (first
        | (go_at_call 10; (with_reducible refine Calls.mono (HC.out.1 _ HB.out) ?_); rintro e w9 ⟨rfl, hb9⟩; have hbb := HB.out.trans (hb9.mono HB.out.size); clear HB g00 g01 g02 g10 g11 g12 g20 g21 g22 g30 g31 g32 g40 g41 g42; obtain ⟨⟨g00, g01, g02⟩, ⟨g10, g11, g12⟩, ⟨g20, g21, g22⟩, ⟨g30, g31, g32⟩, ⟨g40, g41, g42⟩⟩ := HKP.out _ hbb; have HB : Hid _ := hbb; clear hbb hb9)
        | (go_at_call 10; (with_reducible refine Calls.mono (HC.out.2.1 _ HB.out) ?_); rintro e w9 ⟨rfl, hb9⟩; have hbb := HB.out.trans (hb9.mono HB.out.size); clear HB g00 g01 g02 g10 g11 g12 g20 g21 g22 g30 g31 g32 g40 g41 g42; obtain ⟨⟨g00, g01, g02⟩, ⟨g10, g11, g12⟩, ⟨g20, g21, g22⟩, ⟨g30, g31, g32⟩, ⟨g40, g41, g42⟩⟩ := HKP.out _ hbb; have HB : Hid _ := hbb; clear hbb hb9)
        | (go_at_call 12; (with_reducible refine Calls.mono (HC.out.2.2.1 _ HB.out) ?_); rintro e w9 ⟨rfl, hb9⟩; have hbb := HB.out.trans (hb9.mono HB.out.size); clear HB g00 g01 g02 g10 g11 g12 g20 g21 g22 g30 g31 g32 g40 g41 g42; obtain ⟨⟨g00, g01, g02⟩, ⟨g10, g11, g12⟩, ⟨g20, g21, g22⟩, ⟨g30, g31, g32⟩, ⟨g40, g41, g42⟩⟩ := HKP.out _ hbb; have HB : Hid _ := hbb; clear hbb hb9)
        | (go_at_call 12; (with_reducible refine Calls.mono (HC.out.2.2.2.1 _ HB.out) ?_); rintro e w9 ⟨rfl, hb9⟩; have hbb := HB.out.trans (hb9.mono HB.out.size); clear HB g00 g01 g02 g10 g11 g12 g20 g21 g22 g30 g31 g32 g40 g41 g42; obtain ⟨⟨g00, g01, g02⟩, ⟨g10, g11, g12⟩, ⟨g20, g21, g22⟩, ⟨g30, g31, g32⟩, ⟨g40, g41, g42⟩⟩ := HKP.out _ hbb; have HB : Hid _ := hbb; clear hbb hb9)
        | (go_at_call 23; (with_reducible refine Calls.mono (HC.out.2.2.2.2.1 _ HB.out) ?_); rintro e w9 ⟨rfl, hb9⟩; have hbb := HB.out.trans (hb9.mono HB.out.size); clear HB g00 g01 g02 g10 g11 g12 g20 g21 g22 g30 g31 g32 g40 g41 g42; obtain ⟨⟨g00, g01, g02⟩, ⟨g10, g11, g12⟩, ⟨g20, g21, g22⟩, ⟨g30, g31, g32⟩, ⟨g40, g41, g42⟩⟩ := HKP.out _ hbb; have HB : Hid _ := hbb; clear hbb hb9)
        | (go_at_call 22; (with_reducible refine Calls.mono (HC.out.2.2.2.2.2.1 _ HB.out) ?_); rintro e w9 ⟨rfl, hb9⟩; have hbb := HB.out.trans (hb9.mono HB.out.size); clear HB g00 g01 g02 g10 g11 g12 g20 g21 g22 g30 g31 g32 g40 g41 g42; obtain ⟨⟨g00, g01, g02⟩, ⟨g10, g11, g12⟩, ⟨g20, g21, g22⟩, ⟨g30, g31, g32⟩, ⟨g40, g41, g42⟩⟩ := HKP.out _ hbb; have HB : Hid _ := hbb; clear hbb hb9)
        | (go_at_call 14; (with_reducible refine Calls.mono (HC.out.2.2.2.2.2.2.1 _ HB.out) ?_); rintro e w9 ⟨rfl, hb9⟩; have hbb := HB.out.trans (hb9.mono HB.out.size); clear HB g00 g01 g02 g10 g11 g12 g20 g21 g22 g30 g31 g32 g40 g41 g42; obtain ⟨⟨g00, g01, g02⟩, ⟨g10, g11, g12⟩, ⟨g20, g21, g22⟩, ⟨g30, g31, g32⟩, ⟨g40, g41, g42⟩⟩ := HKP.out _ hbb; have HB : Hid _ := hbb; clear hbb hb9)
        | (go_at_call 14; (with_reducible refine Calls.mono (HC.out.2.2.2.2.2.2.2.1 _ HB.out) ?_); rintro e w9 ⟨rfl, hb9⟩; have hbb := HB.out.trans (hb9.mono HB.out.size); clear HB g00 g01 g02 g10 g11 g12 g20 g21 g22 g30 g31 g32 g40 g41 g42; obtain ⟨⟨g00, g01, g02⟩, ⟨g10, g11, g12⟩, ⟨g20, g21, g22⟩, ⟨g30, g31, g32⟩, ⟨g40, g41, g42⟩⟩ := HKP.out _ hbb; have HB : Hid _ := hbb; clear hbb hb9)
        | (go_at_call 11; (with_reducible refine Calls.mono (HC.out.2.2.2.2.2.2.2.2 _ HB.out) ?_); rintro e w9 ⟨rfl, hb9⟩; have hbb := HB.out.trans (hb9.mono HB.out.size); clear HB g00 g01 g02 g10 g11 g12 g20 g21 g22 g30 g31 g32 g40 g41 g42; obtain ⟨⟨g00, g01, g02⟩, ⟨g10, g11, g12⟩, ⟨g20, g21, g22⟩, ⟨g30, g31, g32⟩, ⟨g40, g41, g42⟩⟩ := HKP.out _ hbb; have HB : Hid _ := hbb; clear hbb hb9))
      all_goals
        go_wp2_with fail
        go_ret
        exact ⟨rfl, H6.out.2.2.2.2.2.trans (HB.out.mono H6.out.2.2.2.2.2.size)⟩
end Go.Proofs.Ytakemkhgaicckaa
