/- The walk of XmlFronts. -/
import Derived.Test.YtjcgnbmpnaapdaaDoorFr2
namespace Go.Proofs.YtjcgnbmpnaapdaaDoor
open Go.RowKit
set_option linter.unusedVariables false

/-- Events with all that is in them. -/
structure EF (w : World) (sv : Value) (es : List Ev) : Prop where
  f : ∃ a cap, sv = .slice a es.length cap ∧ es.length ≤ cap ∧ cap ≤ maxLen ∧ (es ≠ [] → ∃ g off, a = some ⟨g, off, none⟩ ∧ ∀ i e, es[i]? = some e → EvAt w g (off + i * 5) e ∧ ∃ av, w.cell? ⟨g, off + i * 5 + 4, none⟩ = some av ∧ AC w av e.attrs)
theorem EF.of {B : Nat} {w : World} {sv : Value} {es : List Ev} {xs : List Value} (h : RR B w sv es.length xs) (hc : EvC B w es xs) : EF w sv es := by
  rcases h with ⟨rfl, h0, _⟩ | ⟨g, off, cap, rfl, _, ⟨cur, hcur, _⟩, h1, h2, h3, h4⟩
  · have : es = [] := List.eq_nil_of_length_eq_zero h0
    exact ⟨none, 0, by rw [h0], by omega, by unfold maxLen; omega, fun h => absurd this h⟩
  · refine ⟨_, cap, rfl, h1, h2, fun _ => ⟨g, off, rfl, fun i e he => ?_⟩⟩
    have hi : i < es.length := (List.getElem?_eq_some_iff.1 he).1
    have h5 := EvC.get i e hc he
    obtain ⟨av, har, _, h6, h7, h8⟩ := EvC.get2 i e hc he
    exact ⟨⟨(h4 (i * 5) (by omega)).trans h5.1, (h4 (i * 5 + 1) (by omega)).trans h5.2, (h4 (i * 5 + 2) (by omega)).trans h6, (h4 (i * 5 + 3) (by omega)).trans h7⟩, av, (h4 (i * 5 + 4) (by omega)).trans h8, own_ac rfl har⟩
theorem EF.below {w w' : World} {sv : Value} {es : List Ev} (h : EF w sv es) (hb : Below w.heap.size w w') : EF w' sv es := by
  obtain ⟨a, cap, e, h1, h2, h3⟩ := h.f
  refine ⟨a, cap, e, h1, h2, fun hn => ?_⟩
  obtain ⟨g, off, ha, hc⟩ := h3 hn
  refine ⟨g, off, ha, fun i e he => ?_⟩
  obtain ⟨q1, av, q2, q3⟩ := hc i e he
  exact ⟨q1.below hb, av, blk_cell hb q2, q3.below hb⟩
theorem BI.cut {w : World} {sa : Option Addr} {sc n : Nat} {l : Bs} (h : BI w (.slice sa l.length sc) l) (hn : n ≤ l.length) : BI w (.slice sa n sc) (l.take n) := by
  have hl : (l.take n).length = n := by simp; omega
  refine ⟨?_, fun i => ?_, by rw [hl]; exact Nat.le_trans hn h.mx⟩
  · rcases h.fm with ⟨h1, h2⟩ | ⟨A, c, h1, h2⟩
    · subst h2
      simp at hn
      subst hn
      simp at h1
      obtain ⟨rfl, rfl⟩ := h1
      exact .inl ⟨rfl, rfl⟩
    · simp at h1
      obtain ⟨rfl, rfl⟩ := h1
      refine .inr ⟨A, sc, by rw [hl], fun j u hu => h2 j u ?_⟩
      rw [List.getElem?_map] at hu ⊢
      obtain ⟨z, hz, rfl⟩ := Option.map_eq_some_iff.1 hu
      have hj := (List.getElem?_eq_some_iff.1 hz).1
      rw [List.getElem?_take_of_lt (by omega)] at hz
      rw [hz]; rfl
  · rw [List.getD_eq_getElem?_getD]
    by_cases hi : i < n
    · rw [List.getElem?_take_of_lt hi, ← List.getD_eq_getElem?_getD]; exact h.bd i
    · rw [List.getElem?_eq_none (by omega)]; simp
theorem slice_ev (g o n cap i : Nat) (h1 : i + 1 ≤ cap) : ∀ W : World, (Instr.slice 27 (.slice (some ⟨g, o, none⟩) n cap) (some (.int .i64 i)) (some (.int .i64 ((i : Int) + 1))) none).run Tryd.prog W = .ok (.slice (some ⟨g, o + i * 5, none⟩) 1 (cap - i)) W := by
  intro W
  have h2 : ¬ cap = i := by omega
  have h3 : (0 : Int) ≤ (i : Int) := by omega
  have h5 : (i : Int) + 1 ≤ (cap : Int) := by omega
  have h6 : (0 : Int) ≤ (i : Int) + 1 := by omega
  simp [Instr.slice, go_sem, h2, h3, h5, h6]
theorem s5_keep {W W' : World} {a b c d e : Addr} {v0 v1 v2 v3 v4 : Value} (h : W.cell? a = some v0 ∧ W.cell? b = some v1 ∧ W.cell? c = some v2 ∧ W.cell? d = some v3 ∧ W.cell? e = some v4) (hb : Below W.heap.size W W') :
    W'.cell? a = some v0 ∧ W'.cell? b = some v1 ∧ W'.cell? c = some v2 ∧ W'.cell? d = some v3 ∧ W'.cell? e = some v4 := ⟨blk_cell hb h.1, blk_cell hb h.2.1, blk_cell hb h.2.2.1, blk_cell hb h.2.2.2.1, blk_cell hb h.2.2.2.2⟩
set_option maxRecDepth 100000 in
theorem fronts_no {w : World} {sa : Option Addr} {n sc : Nat} (c : Int) (hT : Tab w) (hn : n ≤ maxLen) (h : 3000 < n ∨ c < 0 ∨ (n : Int) < c) :
    Calls Tryd.prog 5 #[.slice sa n sc, .int .i64 c] w fun e w' => e = .returned (.bool true) ∧ Below w.heap.size w w' := by
  have HT : Hid _ := hT
  clear hT
  unfold maxLen at hn
  go_enter Tryd.func5, Tryd.ntmps5
  go_wp2_with fail
  refine (known_s HT.out).mono ?_
  rintro e w2 ⟨rfl, hb2⟩
  have HB2 : Hid _ := hb2
  clear hb2
  go_wp2_with fail
  refine (long_any (w := w2) (a := sa) (c := sc)).mono ?_
  rintro e w3 ⟨⟨b, rfl⟩, rfl⟩
  cases b
  · by_cases h1 : 3000 < n
    · go_wp2_with fail
      all_goals
        go_ret
        exact ⟨rfl, HB2.out⟩
    by_cases h2 : c < 0
    · go_wp2_with fail
      all_goals
        go_ret
        exact ⟨rfl, HB2.out⟩
    · have h3 : (n : Int) < c := by omega
      go_wp2_with fail
      all_goals
        go_ret
        exact ⟨rfl, HB2.out⟩
  · go_wp2_with fail
    all_goals
      go_ret
      exact ⟨rfl, HB2.out⟩
set_option maxRecDepth 100000 in
set_option maxHeartbeats 12800000 in
theorem fronts_walk {w : World} {sa : Option Addr} {sc : Nat} {l : Bs} (c : Nat) (h : BI w (.slice sa l.length sc) l) (hT : Tab w) (hl : l.length ≤ 3000) (hc : c ≤ l.length) (hcap : l.length ≤ sc) (hcm : sc ≤ maxLen) :
    Calls Tryd.prog 5 #[.slice sa l.length sc, .int .i64 c] w fun e w' => e = .returned (.bool true) ∧ Below w.heap.size w w' := by
  have h0 : 0 < w.heap.size := World.block_lt_of_cell? w _ hT.a
  have HT : Hid _ := hT
  have HB : Hid _ := h
  have HBc : Hid _ := h.cut hc
  obtain ⟨⟨rest, hrest, hfull⟩, hplace⟩ := M.all_front l c (by omega) hc
  have hfew := M.all_few l (L := limS 0 0 0 0) (by decide)
  have HFR : Hid _ := And.intro hrest (And.intro hfull (And.intro hplace hfew))
  have hlen1 := allB_len l (limS 0 0 0 0)
  have hlen2 := allB_len (l.take c) (limS 0 0 0 0)
  clear h hT hrest hfull hplace hfew
  unfold maxLen at hcm
  have hq1 : decide (3000 < (l.length : Int)) = false := by simp; omega
  have hq2 : decide ((c : Int) < 0) = false := by simp
  have hq3 : decide (l.length < c) = false := by simp; omega
  have hq4 : decide ((l.length : Int) < (c : Int)) = false := by simp; omega
  have hc0 : (0 : Int) ≤ (c : Int) := by omega
  have hcs : (c : Int) ≤ (sc : Int) := by omega
  go_enter Tryd.func5, Tryd.ntmps5
  go_wp2_with fail
  refine (known_s HT.out).mono ?_
  rintro e w2 ⟨rfl, hb2⟩
  have hz2 := hb2.size
  have HB2 : Hid _ := hb2
  clear hb2
  go_wp2_with fail
  refine (short_s (w := w2) (a := sa) (c := sc) hl).mono ?_
  rintro e w3 ⟨rfl, rfl⟩
  go_wp2_with fail
  refine (all_b 0 0 0 0 0 0 (HB.out.below HB2.out) (HT.out.lower HB2.out h0)).mono ?_
  rintro e w4 ⟨B4, sv4, xs4, rfl, hB4, hr4, hc4, hb4⟩
  have hz4 := hb4.size
  have HB4 : Hid _ := HB2.out.trans (hb4.mono (by omega))
  have HE4 : Hid _ := EF.of hr4 hc4
  clear hr4 hc4 hb4
  obtain ⟨a4, cap4, rfl, hn4, hm4, hg4⟩ := HE4.out.f
  clear hg4
  go_wp2_with fail
  refine (all_b 0 0 0 0 0 0 (HBc.out.below HB4.out) (HT.out.lower HB4.out h0)).mono ?_
  rintro e w5 ⟨B5, sv5, xs5, rfl, hB5, hr5, hc5, hb5⟩
  have hz5 := hb5.size
  have HB5 : Hid _ := HB4.out.trans (hb5.mono (by omega))
  have HE5 : Hid _ := And.intro (EF.of hr5 hc5) (HE4.out.below hb5)
  clear hr5 hc5 hb5
  obtain ⟨a5, cap5, rfl, hn5, hm5, hg5⟩ := HE5.out.1.f
  obtain ⟨a4', cap4', he4, _, _, hg4⟩ := HE5.out.2.f
  generalize allB l (limS 0 0 0 0) = X4 at *
  generalize allB (l.take c) (limS 0 0 0 0) = X5 at *
  obtain ⟨e4, p4, c4⟩ := X4
  obtain ⟨e5, p5, c5⟩ := X5
  dsimp only at *
  simp only [Value.slice.injEq, true_and] at he4
  obtain ⟨rfl, rfl⟩ := he4
  have hle : e5.length ≤ e4.length := by rw [HFR.out.1]; simp
  have hpl := HFR.out.2.2.1
  have hg1 : decide (e4.length < e5.length) = false := by simp; omega
  have hg2 : decide ((e4.length : Int) < (e5.length : Int)) = false := by simp; omega
  have hg3 : decide ((c : Int) < p5) = false := by simp; omega
  unfold maxLen at hm4 hm5
  have HG : Hid _ := And.intro hg4 hg5
  clear hg4 hg5
  go_wp2_with fail
  go_loopg [11] e5.length (fun m v11 wr => ∃ i : Nat, v11 = .int .i64 i ∧ i + m = e5.length ∧ Below w5.heap.size w5 wr)
  case atStart => exact ⟨0, rfl, by omega, Below.refl _ _⟩
  case round =>
    obtain ⟨i, rfl, him, hbr⟩ := hrel
    have HBr : Hid _ := hbr
    have hzr := hbr.size
    by_cases hi : i < e5.length
    · obtain ⟨m, rfl⟩ : ∃ m, gk = m + 1 := ⟨gk - 1, by omega⟩
      have hnil5 : e5 ≠ [] := by rintro rfl; simp at hi
      have hnil4 : e4 ≠ [] := fun q => by rw [q] at hle; simp at hle; rw [hle] at hi; simp at hi
      obtain ⟨g4, o4, rfl, hk4⟩ := HG.out.1 hnil4
      obtain ⟨g5, o5, rfl, hk5⟩ := HG.out.2 hnil5
      obtain ⟨e, he5⟩ : ∃ e, e5[i]? = some e := ⟨_, List.getElem?_eq_getElem hi⟩
      have he4 : e4[i]? = some e := by rw [HFR.out.1, List.getElem?_append_left hi]; exact he5
      obtain ⟨q5, av5, hav5, hac5⟩ := hk5 i e he5
      obtain ⟨q4, av4, hav4, hac4⟩ := hk4 i e he4
      have hfe : e.attrs.length ≤ 64 := by
        have q : (e.attrs.length : Int) ≤ 64 := HFR.out.2.2.2 e (List.mem_of_getElem? he4)
        omega
      have r4 := q4.below hbr
      have x0 := r4.c0
      have x1 := r4.c1
      have x2 := r4.c2
      have x3 := r4.c3
      have x4 := blk_cell hbr hav4
      have HQ : Hid _ := And.intro (q5.below hbr) (And.intro (blk_cell hbr hav5) (And.intro (hac5.below hbr) (hac4.below hbr)))
      have hi0 : (0 : Int) ≤ (i : Int) := by omega
      have hi5 : (i : Int) < (e5.length : Int) := by omega
      have hi4 : (i : Int) < (e4.length : Int) := by omega
      have hic : (i : Int) + 1 ≤ (cap5 : Int) := by omega
      have hic2 : (i : Int) ≤ (i : Int) + 1 := by omega
      have hic3 : ¬ cap5 = i := by omega
      have hic4 : (0 : Int) ≤ (i : Int) + 1 := by omega
      have hsl := slice_ev g5 o5 e5.length cap5 i (by omega)
      clear hk4 hk5 he4 he5 q5 q4 hav5 hav4 hac5 hac4 r4 hnil4 hnil5 hbr
      go_wp2_with fail
      have hwr : IntKind.i64.wrap ((i : Int) + 1) = (i : Int) + 1 := by rw [IntKind.wrap_i64]; omega
      have HBel : Hid (Below w5.heap.size w5 wr) := HBr.out
      go_region_held3 (fun W => W.cell? ⟨g4, o4 + i * 5, none⟩ = some (.int .i64 e.kind) ∧ W.cell? ⟨g4, o4 + i * 5 + 1, none⟩ = some (.int .i64 e.place) ∧ W.cell? ⟨g4, o4 + i * 5 + 2, none⟩ = some (.string (sb e.name)) ∧ W.cell? ⟨g4, o4 + i * 5 + 3, none⟩ = some (.string (sb e.text)) ∧ W.cell? ⟨g4, o4 + i * 5 + 4, none⟩ = some av4) (first | exact ⟨x0, x1, x2, x3, x4⟩ | exact s5_keep (by assumption) (by assumption) | go_keep) (first | (go_at_call 15; refine (of_s e.kind e.place (sb e.name) (sb e.text) (HQ.out.2.2.2.below (Below.refl _ _).drew) hfe).mono ?_; rintro r w6 ⟨rv, rfl, hrv, hb6⟩; have HW6 : Hid (AC w6 rv e.attrs ∧ Below wr.heap.size wr w6) := And.intro hrv ((Below.refl _ _).drew.trans hb6); clear hrv) | (go_at_call 14; refine (same_s (ca := cap5 - i) (cb := 1) (HQ.out.1.below (HW6.out.2.alloc HW6.out.2.size (.cells #[.int .i64 e.kind, .int .i64 e.place, .string (sb e.name), .string (sb e.text), rv] 44))).c0 (HQ.out.1.below (HW6.out.2.alloc HW6.out.2.size _)).c1 (HQ.out.1.below (HW6.out.2.alloc HW6.out.2.size _)).c2 (HQ.out.1.below (HW6.out.2.alloc HW6.out.2.size _)).c3 (blk_cell (HW6.out.2.alloc HW6.out.2.size _) HQ.out.2.1) (Bk.cell (i := 0) (heap_alloc_new w6 _)) (Bk.cell (i := 1) (heap_alloc_new w6 _)) (Bk.cell (i := 2) (heap_alloc_new w6 _)) (Bk.cell (i := 3) (heap_alloc_new w6 _)) (Bk.cell (i := 4) (heap_alloc_new w6 _)) (HQ.out.2.2.1.below (HW6.out.2.alloc HW6.out.2.size _)) (HW6.out.1.below ((Below.refl _ _).alloc (Nat.le_refl _) _)) hfe).mono ?_; rintro r w7 ⟨rfl, mq, rfl⟩))
      all_goals
        go_wp2_with fail
        go_roundg m
        case measure => omega
        case rel => exact ⟨i + 1, by simp, by omega, HBr.out.trans ((belN (HW6.out.2.alloc HW6.out.2.size _) mq).mono hzr)⟩
    · clear hbr
      have hie : i = e5.length := by omega
      have hfl := HFR.out.2.1
      by_cases hc5 : c5 = 0
      · have hr0 := hfl hc5
        have hll : e5.length = e4.length := by rw [HFR.out.1, hr0, List.append_nil]
        have hllI : (e5.length : Int) = (e4.length : Int) := by omega
        go_wp2_with fail
        all_goals
          go_ret
          exact ⟨by first | rfl | simp [hll], HB5.out.trans (HBr.out.mono (HB5.out.size))⟩
      · go_wp2_with fail
        all_goals
          go_ret
          exact ⟨rfl, HB5.out.trans (HBr.out.mono (HB5.out.size))⟩
end Go.Proofs.YtjcgnbmpnaapdaaDoor
