/- The statements' own look at the program. -/
import Derived.Test.YtakemkhgaicckaaDoorL0
namespace Go.Proofs.YtakemkhgaicckaaDoor
open Go.RowKit
set_option linter.unusedVariables false

/-- A number in a box. -/
structure BxN (w : World) (T : Nat) (t : TypeId) (n : Nm) (a : Option Addr) (c : Nat) : Prop where
  nm : NmR w (.slice a n.2.1.length c) n
  bx : w.heap[T]? = some (.cells #[.bool n.1, .slice a n.2.1.length c, .int .i64 n.2.2] t (0, 0))
theorem BxN.below {w w' : World} {T : Nat} {t : TypeId} {n : Nm} {a : Option Addr} {c : Nat} (h : BxN w T t n a c) (hb : Below w.heap.size w w') : BxN w' T t n a c := ⟨h.nm.below hb, (hb.block _ (lt_of h.bx)).trans h.bx⟩
theorem BxN.mk' {w : World} {t : TypeId} {n : Nm} {a : Option Addr} {c : Nat} (h : NmR w (.slice a n.2.1.length c) n) : BxN (w.alloc (.cells #[.bool n.1, .slice a n.2.1.length c, .int .i64 n.2.2] t)) w.heap.size t n a c ∧ Below w.heap.size w (w.alloc (.cells #[.bool n.1, .slice a n.2.1.length c, .int .i64 n.2.2] t)) := by
  have hb : Below w.heap.size w (w.alloc (.cells #[.bool n.1, .slice a n.2.1.length c, .int .i64 n.2.2] t)) := (Below.refl _ _).alloc (Nat.le_refl _) _
  exact ⟨⟨h.below hb, nw_heap _ _⟩, hb⟩
/-- A parse that went well. -/
theorem PrP.ok {l : List Int} {w w' : World} {e : Ending} {n : Nm} (h : PrP l w e w') (hp : parS l = .ok n) (hl : n.2.1.length ≤ 4096) : ∃ a c, e = .returned (.tuple #[nmV n.1 (.slice a n.2.1.length c) n.2.2, .int .i64 0]) ∧ NmR w' (.slice a n.2.1.length c) n ∧ Below w.heap.size w w' := by
  obtain ⟨hb, h2⟩ := h
  rw [hp] at h2
  obtain ⟨rv, rfl, ht⟩ := h2
  obtain ⟨a, c, rfl, _⟩ := ht.form
  exact ⟨a, c, rfl, ⟨ht, (par_ok hp).1, hl⟩, hb⟩
theorem PrP.no {l : List Int} {w w' : World} {e : Ending} {x : Int} (h : PrP l w e w') (hp : parS l = .error x) : ∃ a c, e = .returned (.tuple #[nmV false (.slice a 0 c) 0, .int .i64 x]) ∧ BtR w' (.slice a 0 c) [] ∧ Below w.heap.size w w' := by
  obtain ⟨hb, h2⟩ := h
  rw [hp] at h2
  obtain ⟨rv, rfl, ht⟩ := h2
  obtain ⟨a, c, rfl, _⟩ := ht.form
  exact ⟨a, c, rfl, ht, hb⟩
theorem ArP.ok {a b n : Nm} {w w' : World} {e : Ending} (h : ArP a b w e w') (ha : CN a) (hb : CN b) (hp : adS a b = .ok n) (hl : n.2.1.length ≤ 4096) : ∃ ad c, e = .returned (.tuple #[nmV n.1 (.slice ad n.2.1.length c) n.2.2, .int .i64 0]) ∧ NmR w' (.slice ad n.2.1.length c) n ∧ Below w.heap.size w w' := by
  obtain ⟨hbl, h2⟩ := h
  have hcn : CN n := by
    unfold adS at hp
    split at hp
    · simp at hp
    · have e : smS a b = n := by simpa using hp
      rw [← e]
      exact (sm_ok ha hb).1
  rw [hp] at h2
  obtain ⟨rv, rfl, ht⟩ := h2
  obtain ⟨ad, c, rfl, _⟩ := ht.form
  exact ⟨ad, c, rfl, ⟨ht, hcn, hl⟩, hbl⟩
theorem neg_n {w : World} {v : Value} {n : Nm} (P : Prg) (h : NmR w v n) : Calls Tryd.prog 12 #[nmV n.1 v n.2.2] w fun e w' => ∃ a c, e = .returned (nmV (ngS n).1 (.slice a (ngS n).2.1.length c) (ngS n).2.2) ∧ NmR w' (.slice a (ngS n).2.1.length c) (ngS n) ∧ Below w.heap.size w w' := by
  refine Calls.mono (P.neg h) ?_
  rintro e w' ⟨rv, rfl, ht, hb⟩
  obtain ⟨a, c, rfl, _⟩ := ht.form
  exact ⟨a, c, rfl, ⟨ht, (ng_ok h.cn).1, h.le⟩, hb⟩
theorem text_as (P : Prg) {w : World} {v : Value} {n : Nm} (h : NmR w v n) {s : ByteArray} (hs : sb (txS n) = s) : Calls Tryd.prog 13 #[nmV n.1 v n.2.2] w fun e w' => e = .returned (.string s) ∧ Below w.heap.size w w' := by
  rw [← hs]
  exact P.text h
set_option maxRecDepth 100000 in
set_option maxHeartbeats 3200000 in
theorem known_s (P : Prg) (w : World) : Calls Tryd.prog 4 #[] w fun e w' => e = .returned (.bool true) ∧ Below w.heap.size w w' := by
  have HP : Hid _ := P
  have kab : bl ⟨#[45, 48, 48, 55, 46, 53, 48]⟩ = kA := by rfl
  have kbb : bl ⟨#[43, 46, 53]⟩ = kB := by rfl
  obtain ⟨nA, hA⟩ : ∃ nA : Nm, nA = (true, [7, 5], 1) := ⟨_, rfl⟩
  obtain ⟨nB, hB⟩ : ∃ nB : Nm, nB = (false, [0, 5], 1) := ⟨_, rfl⟩
  obtain ⟨nC, hC⟩ : ∃ nC : Nm, nC = (true, [7], 0) := ⟨_, rfl⟩
  have pA : parS kA = .ok nA := by rw [hA]; exact parA
  have pB : parS kB = .ok nB := by rw [hB]; exact parB
  have lA : nA.2.1.length ≤ 4096 := by rw [hA]; simp
  have lB : nB.2.1.length ≤ 4096 := by rw [hB]; simp
  have lC : nC.2.1.length ≤ 4096 := by rw [hC]; simp
  have aC : adS nA nB = .ok nC := by rw [hA, hB, hC]; exact adAB
  have tA : sb (txS nA) = ⟨#[45, 55, 46, 53]⟩ := by rw [hA]; exact txA
  have tB : sb (txS nB) = ⟨#[48, 46, 53]⟩ := by rw [hB]; exact txB
  have tC : sb (txS nC) = ⟨#[45, 55]⟩ := by rw [hC]; exact txC
  have tN : sb (txS (ngS nA)) = ⟨#[55, 46, 53]⟩ := by rw [hA, ngA]; exact txN
  have dC : decide (nC.2.2 = 0) = true := by rw [hC]; rfl
  have cAB : cmpS nA nB = -1 := by rw [hA, hB]; exact cmAB
  have oB : totS nB.2.1 nB.2.2 = 1 := by rw [hB]; exact toB
  have fB : ((nB.2.2 : Nat) : Int) = 1 := by rw [hB]; rfl
  have HK : Hid _ := And.intro kab (And.intro kbb (And.intro pA (And.intro pB (And.intro lA (And.intro lB (And.intro lC aC))))))
  have HV : Hid _ := And.intro tA (And.intro tB (And.intro tC (And.intro tN (And.intro dC (And.intro cAB (And.intro oB fB))))))
  clear P kab kbb pA pB lA lB lC aC tA tB tC tN dC cAB oB fB hA hB hC
  go_enter Tryd.func4, Tryd.ntmps4
  go_wp2_with fail
  refine Calls.mono (HP.out.parse _ _ (by unfold maxLen; decide)) ?_
  rintro e w1 hp1
  rw [HK.out.1] at hp1
  obtain ⟨a1, c1, rfl, hn1, hb1⟩ := hp1.ok HK.out.2.2.1 HK.out.2.2.2.2.1
  obtain ⟨hx1, hba1⟩ := BxN.mk' (t := 25) hn1
  have H1 : Hid _ := And.intro hx1 (hb1.trans (hba1.mono hb1.size))
  clear hp1 hn1 hb1 hx1 hba1
  go_wp2_with fail
  generalize (w1.alloc (.cells #[.bool nA.1, .slice a1 nA.2.1.length c1, .int .i64 nA.2.2] 25)) = U1 at *
  refine Calls.mono (HP.out.parse _ _ (by unfold maxLen; decide)) ?_
  rintro e w2 hp2
  rw [HK.out.2.1] at hp2
  obtain ⟨a2, c2, rfl, hn2, hb2⟩ := hp2.ok HK.out.2.2.2.1 HK.out.2.2.2.2.2.1
  obtain ⟨hx2, hba2⟩ := BxN.mk' (t := 25) hn2
  have hbU2 := hb2.trans (hba2.mono hb2.size)
  have H2 : Hid _ := And.intro (H1.out.1.below hbU2) (And.intro hx2 (H1.out.2.trans (hbU2.mono H1.out.2.size)))
  clear hp2 hn2 hb2 hx2 hba2 hbU2 H1
  obtain ⟨k10, k11, k12⟩ := bl3 H2.out.1.bx
  obtain ⟨k20, k21, k22⟩ := bl3 H2.out.2.1.bx
  have hl1 := lt_of H2.out.1.bx
  go_wp2_with fail
  generalize (w2.alloc (.cells #[.bool nB.1, .slice a2 nB.2.1.length c2, .int .i64 nB.2.2] 25)) = U2 at *
  refine Calls.mono (HP.out.add H2.out.1.nm H2.out.2.1.nm) ?_
  rintro e w3 hp3
  obtain ⟨a3, c3, rfl, hn3, hb3⟩ := hp3.ok H2.out.1.nm.cn H2.out.2.1.nm.cn HK.out.2.2.2.2.2.2.2 HK.out.2.2.2.2.2.2.1
  obtain ⟨hx3, hba3⟩ := BxN.mk' (t := 25) hn3
  have hbU3 := hb3.trans (hba3.mono hb3.size)
  have H3 : Hid _ := And.intro (H2.out.1.below hbU3) (And.intro (H2.out.2.1.below hbU3) (And.intro hx3 (H2.out.2.2.trans (hbU3.mono H2.out.2.2.size))))
  clear hp3 hn3 hb3 hx3 hba3 hbU3 H2 k10 k11 k12 k20 k21 k22
  go_upto_region 4 with fail
  generalize (w3.alloc (.cells #[.bool nC.1, .slice a3 nC.2.1.length c3, .int .i64 nC.2.2] 25)) = U3 at *
  have HB : Hid (Below U3.heap.size U3 U3) := Below.refl _ _
  have hkp : ∀ W, Below U3.heap.size U3 W → (W.cell? ⟨w1.heap.size, 0, none⟩ = some (.bool nA.1) ∧ W.cell? ⟨w1.heap.size, 1, none⟩ = some (.slice a1 nA.2.1.length c1) ∧ W.cell? ⟨w1.heap.size, 2, none⟩ = some (.int .i64 nA.2.2)) ∧ (W.cell? ⟨w2.heap.size, 0, none⟩ = some (.bool nB.1) ∧ W.cell? ⟨w2.heap.size, 1, none⟩ = some (.slice a2 nB.2.1.length c2) ∧ W.cell? ⟨w2.heap.size, 2, none⟩ = some (.int .i64 nB.2.2)) ∧ (W.cell? ⟨w3.heap.size, 0, none⟩ = some (.bool nC.1) ∧ W.cell? ⟨w3.heap.size, 1, none⟩ = some (.slice a3 nC.2.1.length c3) ∧ W.cell? ⟨w3.heap.size, 2, none⟩ = some (.int .i64 nC.2.2)) := fun W hb => ⟨boxK H3.out.1.bx W hb, boxK H3.out.2.1.bx W hb, boxK H3.out.2.2.1.bx W hb⟩
  have HKP : Hid _ := hkp
  obtain ⟨⟨g10, g11, g12⟩, ⟨g20, g21, g22⟩, g30, g31, g32⟩ := hkp U3 (Below.refl _ _)
  clear hkp
  have q1 := fun W (hb : Below U3.heap.size U3 W) => HP.out.text (H3.out.1.below hb).nm
  have q2 := fun W (hb : Below U3.heap.size U3 W) => HP.out.text (H3.out.2.1.below hb).nm
  have q3 := fun W (hb : Below U3.heap.size U3 W) => HP.out.text (H3.out.2.2.1.below hb).nm
  have q4 := fun W (hb : Below U3.heap.size U3 W) => HP.out.whole (H3.out.2.2.1.below hb).nm
  have q5 := fun W (hb : Below U3.heap.size U3 W) => HP.out.cmp (H3.out.1.below hb).nm (H3.out.2.1.below hb).nm
  have q6 := fun W (hb : Below U3.heap.size U3 W) => HP.out.total (H3.out.2.1.below hb).nm
  have q7 := fun W (hb : Below U3.heap.size U3 W) => HP.out.frac (H3.out.2.1.below hb).nm
  have q8 := fun W (hb : Below U3.heap.size U3 W) => neg_n HP.out (H3.out.1.below hb).nm
  rw [HV.out.1] at q1
  rw [HV.out.2.1] at q2
  rw [HV.out.2.2.1] at q3
  rw [HV.out.2.2.2.2.1] at q4
  rw [HV.out.2.2.2.2.2.1] at q5
  rw [HV.out.2.2.2.2.2.2.1] at q6
  have q7' : ∀ W, Below U3.heap.size U3 W → Calls Tryd.prog 15 #[nmV nB.1 (.slice a2 nB.2.1.length c2) nB.2.2] W fun e w' => e = .returned (.int .i64 1) ∧ Below W.heap.size W w' := fun W hb => Calls.mono (q7 W hb) (fun e w' ⟨h1, h2⟩ => ⟨by rw [h1, HV.out.2.2.2.2.2.2.2], h2⟩)
  have HC : Hid _ := And.intro q1 (And.intro q2 (And.intro q3 (And.intro q4 (And.intro q5 (And.intro q6 (And.intro q7' q8))))))
  clear q1 q2 q3 q4 q5 q6 q7 q7' q8
  go_wp2_with (first
    | (go_at_call 13; (with_reducible refine Calls.mono (HC.out.1 _ HB.out) ?_); rintro e w9 ⟨rfl, hb9⟩; have hbb := HB.out.trans (hb9.mono HB.out.size); obtain ⟨⟨g10, g11, g12⟩, ⟨g20, g21, g22⟩, g30, g31, g32⟩ := HKP.out _ hbb; have HB : Hid _ := hbb; clear hbb hb9)
    | (go_at_call 13; (with_reducible refine Calls.mono (HC.out.2.1 _ HB.out) ?_); rintro e w9 ⟨rfl, hb9⟩; have hbb := HB.out.trans (hb9.mono HB.out.size); obtain ⟨⟨g10, g11, g12⟩, ⟨g20, g21, g22⟩, g30, g31, g32⟩ := HKP.out _ hbb; have HB : Hid _ := hbb; clear hbb hb9)
    | (go_at_call 13; (with_reducible refine Calls.mono (HC.out.2.2.1 _ HB.out) ?_); rintro e w9 ⟨rfl, hb9⟩; have hbb := HB.out.trans (hb9.mono HB.out.size); obtain ⟨⟨g10, g11, g12⟩, ⟨g20, g21, g22⟩, g30, g31, g32⟩ := HKP.out _ hbb; have HB : Hid _ := hbb; clear hbb hb9)
    | (go_at_call 8; (with_reducible refine Calls.mono (HC.out.2.2.2.1 _ HB.out) ?_); rintro e w9 ⟨rfl, hb9⟩; have hbb := HB.out.trans (hb9.mono HB.out.size); obtain ⟨⟨g10, g11, g12⟩, ⟨g20, g21, g22⟩, g30, g31, g32⟩ := HKP.out _ hbb; have HB : Hid _ := hbb; clear hbb hb9)
    | (go_at_call 9; (with_reducible refine Calls.mono (HC.out.2.2.2.2.1 _ HB.out) ?_); rintro e w9 ⟨rfl, hb9⟩; have hbb := HB.out.trans (hb9.mono HB.out.size); obtain ⟨⟨g10, g11, g12⟩, ⟨g20, g21, g22⟩, g30, g31, g32⟩ := HKP.out _ hbb; have HB : Hid _ := hbb; clear hbb hb9)
    | (go_at_call 14; (with_reducible refine Calls.mono (HC.out.2.2.2.2.2.1 _ HB.out) ?_); rintro e w9 ⟨rfl, hb9⟩; have hbb := HB.out.trans (hb9.mono HB.out.size); obtain ⟨⟨g10, g11, g12⟩, ⟨g20, g21, g22⟩, g30, g31, g32⟩ := HKP.out _ hbb; have HB : Hid _ := hbb; clear hbb hb9)
    | (go_at_call 15; (with_reducible refine Calls.mono (HC.out.2.2.2.2.2.2.1 _ HB.out) ?_); rintro e w9 ⟨rfl, hb9⟩; have hbb := HB.out.trans (hb9.mono HB.out.size); obtain ⟨⟨g10, g11, g12⟩, ⟨g20, g21, g22⟩, g30, g31, g32⟩ := HKP.out _ hbb; have HB : Hid _ := hbb; clear hbb hb9)
    | (go_at_call 12; (with_reducible refine Calls.mono (HC.out.2.2.2.2.2.2.2 _ HB.out) ?_); rintro e w9 ⟨an, cn, rfl, hnn, hb9⟩; have HQ : Hid _ := And.intro (text_as HP.out hnn HV.out.2.2.2.1) trivial; have hbb := HB.out.trans (hb9.mono HB.out.size); obtain ⟨⟨g10, g11, g12⟩, ⟨g20, g21, g22⟩, g30, g31, g32⟩ := HKP.out _ hbb; have HB : Hid _ := hbb; clear hbb hb9; clear hnn)
    | (go_at_call 13; (with_reducible refine Calls.mono HQ.out.1 ?_); rintro e w9 ⟨rfl, hb9⟩; have hbb := HB.out.trans (hb9.mono HB.out.size); obtain ⟨⟨g10, g11, g12⟩, ⟨g20, g21, g22⟩, g30, g31, g32⟩ := HKP.out _ hbb; have HB : Hid _ := hbb; clear hbb hb9))
  go_ret
  exact ⟨rfl, H3.out.2.2.2.trans (HB.out.mono H3.out.2.2.2.size)⟩
end Go.Proofs.YtakemkhgaicckaaDoor
