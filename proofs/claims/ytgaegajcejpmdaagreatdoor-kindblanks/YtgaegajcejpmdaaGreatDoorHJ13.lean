/- Joined: HDcD3, HDcD7. -/
import Derived.Test.YtgaegajcejpmdaaGreatDoorHJ10
namespace Go.Proofs.YtgaegajcejpmdaaGreatDoor.Dc
open Go.RowKit
set_option linter.unusedVariables false

/-- Right, by the program's way. -/
theorem rg_pr (neg : Bool) (l : List Int) (sc : Int) : rgS neg l sc = if 1 ≤ l.length ∧ l.length ≤ 4096 ∧ 0 ≤ sc ∧ sc ≤ l.length - 1 then
    (if 9 < mxS l then false else if 1 < (l.length : Int) - sc ∧ l.head? = some 0 then false else if 0 < sc ∧ l.getLast? = some 0 then false else (!neg || !(noS l))) else false := by
  unfold rgS
  by_cases h1 : 1 ≤ l.length ∧ l.length ≤ 4096 ∧ 0 ≤ sc ∧ sc ≤ (l.length : Int) - 1
  · rw [if_pos h1, decide_eq_true h1, Bool.true_and, ← mx_nine]
    by_cases h2 : 9 < mxS l
    · rw [if_pos h2, decide_eq_false (by omega)]; simp
    · rw [if_neg h2, decide_eq_true (by omega), Bool.true_and]
      by_cases h3 : 1 < (l.length : Int) - sc ∧ l.head? = some 0
      · rw [if_pos h3, decide_eq_false (by omega), h3.2]; simp
      · rw [if_neg h3]
        have e3 : (decide ((l.length : Int) - sc = 1) || !(l.head? == some 0)) = true := by
          by_cases q : (l.length : Int) - sc = 1
          · simp [q]
          · have : ¬ l.head? = some 0 := fun r => h3 ⟨by omega, r⟩
            simp [this]
        rw [e3, Bool.true_and]
        by_cases h4 : 0 < sc ∧ l.getLast? = some 0
        · rw [if_pos h4, decide_eq_false (by omega), h4.2]; simp
        · rw [if_neg h4]
          have e4 : (decide (sc = 0) || !(l.getLast? == some 0)) = true := by
            by_cases q : sc = 0
            · simp [q]
            · have : ¬ l.getLast? = some 0 := fun r => h4 ⟨by omega, r⟩
              simp [this]
          rw [e4, Bool.true_and]
          have e5 : l.all (· == 0) = noS l := by
            rw [Bool.eq_iff_iff]
            unfold noS
            constructor
            · intro ha
              have hz : ∀ d ∈ l, d = 0 := fun d hd => by simpa using List.all_eq_true.1 ha d hd
              have hne : l ≠ [] := fun e => by rw [e] at h1; simp at h1
              have hh : l.head? = some 0 := by
                cases l with
                | nil => exact absurd rfl hne
                | cons d l => rw [hz d (by simp)]; rfl
              have hl : l.getLast? = some 0 := by
                obtain ⟨m, d, e, _, hg⟩ := last_mod hne
                rw [hg, hz d (by rw [e]; simp)]
              have q1 : ¬ 1 < (l.length : Int) - sc := fun q => h3 ⟨q, hh⟩
              have q2 : ¬ 0 < sc := fun q => h4 ⟨q, hl⟩
              have : l.length = 1 := by omega
              simp [this, hh]
            · intro hb
              simp only [Bool.and_eq_true, decide_eq_true_eq, beq_iff_eq] at hb
              obtain ⟨q1, q2⟩ := hb
              obtain ⟨d, rfl⟩ := List.length_eq_one_iff.1 q1
              simp at q2
              simp [q2]
          rw [e5]
          cases noS l <;> cases neg <;> rfl
  · rw [if_neg h1, decide_eq_false h1]; simp
set_option maxRecDepth 100000 in
set_option maxHeartbeats 3200000 in
theorem right_p {w : World} {v : Value} {l : List Int} (h : BtR w v l) (neg : Bool) (sc : Int) (hs0 : -9223372036854775808 ≤ sc) (hs1 : sc ≤ 9223372036854775807) : Calls Tryz.prog 54 #[nmV neg v sc] w fun e w' => e = .returned (.bool (rgS neg l sc)) ∧ Below w.heap.size w w' := by
  have hbx : Below w.heap.size w (w.alloc (.cells #[.bool neg, v, .int .i64 sc] 34)) := (Below.refl _ _).alloc (Nat.le_refl _) _
  have hbk := nw_heap w (.cells #[.bool neg, v, .int .i64 sc] 34)
  have hN := fun W (hW : Below w.heap.size w W) => nought_p (h.below hW) neg sc
  have hM := fun W (hW : Below w.heap.size w W) (hn : l ≠ []) => max_p (h.below hW) hn
  have hA := fun W (hW : Below w.heap.size w W) q1 q2 => ahead_p (h.below hW) neg sc q1 q2
  obtain ⟨a, cap, rfl, h1, h2, h3, h4⟩ := h
  unfold maxLen at h2
  have hR := rg_pr neg l sc
  generalize rgS neg l sc = R at *
  have HH : Hid _ := And.intro h3 (And.intro h4 (And.intro hbx (And.intro hbk (And.intro hR (And.intro hN (And.intro hM hA))))))
  clear h3 h4 hbx hbk hR hN hM hA
  have hbad : ¬ (1 ≤ l.length ∧ l.length ≤ 4096 ∧ 0 ≤ sc ∧ sc ≤ (l.length : Int) - 1) → R = false := fun q => by
    rw [HH.out.2.2.2.2.1, if_neg q]
  by_cases g1 : (l.length : Int) < 1
  · have : R = false := hbad (by omega)
    subst this
    clear hbad
    go_enter Tryz.func54, Tryz.ntmps54
    go_wp2_with fail
    go_ret
    exact ⟨rfl, HH.out.2.2.1⟩
  by_cases g2 : 4096 < (l.length : Int)
  · have : R = false := hbad (by omega)
    subst this
    clear hbad
    go_enter Tryz.func54, Tryz.ntmps54
    go_wp2_with fail
    go_ret
    exact ⟨rfl, HH.out.2.2.1⟩
  by_cases g3 : sc < 0
  · have : R = false := hbad (by omega)
    subst this
    clear hbad
    go_enter Tryz.func54, Tryz.ntmps54
    go_wp2_with fail
    go_ret
    exact ⟨rfl, HH.out.2.2.1⟩
  by_cases g4 : (l.length : Int) - 1 < sc
  · have : R = false := hbad (by omega)
    subst this
    clear hbad
    go_enter Tryz.func54, Tryz.ntmps54
    go_wp2_with fail
    go_ret
    exact ⟨rfl, HH.out.2.2.1⟩
  have hR2 : R = (if 9 < mxS l then false else if 1 < (l.length : Int) - sc ∧ l.head? = some 0 then false else if 0 < sc ∧ l.getLast? = some 0 then false else (!neg || !(noS l))) := by rw [HH.out.2.2.2.2.1, if_pos (by omega)]
  have hn : 0 < l.length := by omega
  have hne : l ≠ [] := fun e => by rw [e] at hn; simp at hn
  rcases HH.out.2.1 with he | ⟨g, o, rfl, hg, hc⟩
  · exact absurd he hne
  have hMX := HH.out.2.2.2.2.2.2.1 _ HH.out.2.2.1 hne
  have hmb := mx_bd l 0 (by omega) (by omega) HH.out.1
  have hh : l.head? = some (l[0]'hn) := by rw [List.head?_eq_getElem?, List.getElem?_eq_getElem]
  have hla : l.getLast? = some (l[l.length - 1]'(by omega)) := by rw [List.getLast?_eq_getElem?, List.getElem?_eq_getElem]
  rw [hh, hla] at hR2
  have hc0 := hc 0 hn
  rw [Nat.add_zero] at hc0
  have hc1 := hc (l.length - 1) (by omega)
  have b0 := HH.out.1 _ (List.getElem_mem hn)
  have b1 := HH.out.1 _ (List.getElem_mem (show l.length - 1 < l.length by omega))
  generalize (l[0]'hn) = d0 at *
  generalize (l[l.length - 1]'(by omega)) = d1 at *
  have e1 : ((l.length : Nat) : Int) - 1 = ((l.length - 1 : Nat) : Int) := by omega
  have hk : l.length - 1 < l.length := by omega
  have hm0 : 0 ≤ mxS l ∧ mxS l < 256 := hmb
  generalize mxS l = M at *
  generalize noS l = N at *
  have HR : Hid _ := And.intro hR2 (And.intro hMX (And.intro hc0 hc1))
  clear hbad hR2 hMX hmb hc hc0 hc1 hh hla
  obtain ⟨c0, c1, c2⟩ := bl3 HH.out.2.2.2.1
  go_enter Tryz.func54, Tryz.ntmps54
  go_wp2_with fail
  refine Calls.mono HR.out.2.1 ?_
  rintro e w1 ⟨rfl, hb1⟩
  have hbw1 := HH.out.2.2.1.trans (hb1.mono HH.out.2.2.1.size)
  have hT1 := (hb1.block _ (lt_of HH.out.2.2.2.1)).trans HH.out.2.2.2.1
  have hA1 := HH.out.2.2.2.2.2.2.2 _ hbw1 (by omega) (by omega)
  clear c0 c1 c2
  obtain ⟨c0, c1, c2⟩ := bl3 hT1
  have H1 : Hid _ := And.intro hbw1 (And.intro hT1 hA1)
  clear hb1 hbw1 hT1 hA1
  by_cases h9 : 9 < M
  · have : R = false := by rw [HR.out.1, if_pos h9]
    subst this
    go_wp2_with fail
    go_ret
    exact ⟨rfl, H1.out.1⟩
  have hR3 : R = (if 1 < (l.length : Int) - sc ∧ some d0 = some 0 then false else if 0 < sc ∧ some d1 = some 0 then false else (!neg || !N)) := by rw [HR.out.1, if_neg h9]
  have HR3 : Hid _ := hR3
  clear hR3
  go_wp2_with fail
  refine Calls.mono H1.out.2.2 ?_
  rintro e w2 ⟨rfl, hb2⟩
  have hbw2 := H1.out.1.trans (hb2.mono H1.out.1.size)
  have hT2 := (hb2.block _ (lt_of H1.out.2.1)).trans H1.out.2.1
  have hN2 := HH.out.2.2.2.2.2.1 _ hbw2
  have x0 := (hbw2.cell (p := ⟨g, o, none⟩) hg).trans HR.out.2.2.1
  have x1 := (hbw2.cell (p := ⟨g, o + (l.length - 1), none⟩) hg).trans HR.out.2.2.2
  clear c0 c1 c2
  obtain ⟨c0, c1, c2⟩ := bl3 hT2
  have H2 : Hid _ := And.intro hbw2 (And.intro hT2 hN2)
  clear hb2 hbw2 hT2 hN2
  have hsl : ¬ 1 < (l.length : Int) - sc ∨ (1 < (l.length : Int) - sc ∧ d0 ≠ 0) ∨ (1 < (l.length : Int) - sc ∧ d0 = 0) := by omega
  have hlz : ¬ 0 < sc ∨ (0 < sc ∧ d1 ≠ 0) ∨ (0 < sc ∧ d1 = 0) := by omega
  rcases hsl with p1 | ⟨p1, p2⟩ | ⟨p1, p2⟩
  case' inr.inr =>
    have : R = false := by rw [HR3.out, if_pos ⟨p1, by rw [p2]⟩]
    subst this
    subst p2
    go_wp2_with fail
    go_ret
    exact ⟨rfl, H2.out.1⟩
  case' inl =>
    have hR4 : R = (if 0 < sc ∧ some d1 = some 0 then false else (!neg || !N)) := by rw [HR3.out, if_neg (fun q => p1 q.1)]
  case' inr.inl =>
    have hR4 : R = (if 0 < sc ∧ some d1 = some 0 then false else (!neg || !N)) := by rw [HR3.out, if_neg (fun q => p2 (by simpa using q.2))]
    have p2b : (d0 == 0) = false := by simpa using p2
    clear p2
  all_goals
    have HR4 : Hid _ := hR4
    clear hR4
    rcases hlz with q1 | ⟨q1, q2⟩ | ⟨q1, q2⟩
    case' inr.inr =>
      have : R = false := by rw [HR4.out, if_pos ⟨q1, by rw [q2]⟩]
      subst this
      subst q2
      go_wp2_with fail
      go_ret
      exact ⟨rfl, H2.out.1⟩
    case' inl =>
      have hR5 : R = (!neg || !N) := by rw [HR4.out, if_neg (fun r => q1 r.1)]
    case' inr.inl =>
      have hR5 : R = (!neg || !N) := by rw [HR4.out, if_neg (fun r => q2 (by simpa using r.2))]
      have q2b : (d1 == 0) = false := by simpa using q2
      clear q2
    all_goals
      subst hR5
      cases neg
      · go_wp2_with fail
        go_ret
        exact ⟨rfl, H2.out.1⟩
      · go_wp2_with fail
        refine Calls.mono H2.out.2.2 ?_
        rintro e w3 ⟨rfl, hb3⟩
        have H3 : Hid _ := H2.out.1.trans (hb3.mono H2.out.1.size)
        clear hb3
        go_wp2_with fail
        go_ret
        exact ⟨rfl, H3.out⟩
theorem tot_pr {n : Nm} (h : CN n) : totS n.2.1 n.2.2 = if 0 < n.2.2 ∧ n.2.1.head? = some 0 then (n.2.1.length : Int) - 1 else n.2.1.length := by
  unfold totS
  have h1 := h.1.hd
  by_cases q : 0 < n.2.2 ∧ n.2.1.head? = some 0
  · rw [if_pos q, if_pos ⟨q.1, by rcases h1 with r | r; exact r; exact absurd q.2 r, q.2⟩]
  · rw [if_neg q, if_neg (fun r => q ⟨r.1, r.2.2⟩)]
theorem right_nm {w : World} {v : Value} {n : Nm} (h : NmR w v n) : Calls Tryz.prog 54 #[nmV n.1 v n.2.2] w fun e w' => e = .returned (.bool true) ∧ Below w.heap.size w w' := by
  have := right_p h.bt n.1 n.2.2 (by omega) (by have := h.cn.1.len; have := h.le; omega)
  rwa [rg_ok h.cn h.le] at this
end Go.Proofs.YtgaegajcejpmdaaGreatDoor.Dc
namespace Go.Proofs.YtgaegajcejpmdaaGreatDoor.Dc
open Go.RowKit
set_option linter.unusedVariables false

theorem TI1.below {w wr w2 : World} {box : Obj} {T l out : List Int} {k : Int} {i : Nat} {v : Value} (h : TI1 w box T l k i out v wr) (hb : Below wr.heap.size wr w2) : TI1 w box T l k i out v w2 :=
  ⟨(hb.block _ (lt_of h.z)).trans h.z, row_below h.row hb, h.bel.trans (hb.mono h.bel.size), h.eq, h.len⟩
set_option maxRecDepth 100000 in
set_option maxHeartbeats 3200000 in
theorem text_p {w : World} {v : Value} {n : Nm} (h : NmR w v n) : Calls Tryz.prog 32 #[nmV n.1 v n.2.2] w fun e w' => e = .returned (.string (sb (txS n))) ∧ Below w.heap.size w w' := by
  obtain ⟨i5, z5, hi5, hz0, hzc, hz1, hz3⟩ := info5p
  have hlen := h.cn.1.len
  have hle := h.le
  have hdg := h.cn.1.dg
  have htx := tx_pt n (by omega)
  have htb := tx_byte hdg
  have hbt := h.bt
  have hb0 : Below w.heap.size w (w.alloc (.cells #[.bool n.1, v, .int .i64 n.2.2] 34)) := (Below.refl _ _).alloc (Nat.le_refl _) _
  have hR := right_nm (h.below hb0)
  have hA := fun W (hW : Below w.heap.size w W) => ahead_p (h.bt.below hW) n.1 n.2.2 (by omega) (by omega)
  obtain ⟨neg, l, sc⟩ := n
  dsimp only at *
  obtain ⟨a, cap, rfl, h1, h2, h3, h4⟩ := hbt
  unfold maxLen at h2
  rcases h4 with he | ⟨g, o, rfl, hg, hc⟩
  · rw [he] at hlen; simp at hlen
  generalize txS (neg, l, sc) = T at *
  have hbk := nw_heap w (.cells #[.bool neg, .slice (some ⟨g, o, none⟩) l.length cap, .int .i64 sc] 34)
  have HH : Hid _ := And.intro hc (And.intro hdg (And.intro htx (And.intro htb (And.intro hb0 (And.intro hbk (And.intro hR hA))))))
  clear hc hdg htx htb hb0 hbk h h3 hR hA
  obtain ⟨box, hbox⟩ : ∃ box : Obj, box = .cells #[.bool neg, .slice (some ⟨g, o, none⟩) l.length cap, .int .i64 sc] 34 (0, 0) := ⟨_, rfl⟩
  have HX : Hid _ := hbox
  clear hbox
  go_enter Tryz.func32, Tryz.ntmps32
  go_wp2_with fail
  refine Calls.mono HH.out.2.2.2.2.2.2.1 ?_
  rintro e w1 ⟨rfl, hb1⟩
  have hbw1 := HH.out.2.2.2.2.1.trans (hb1.mono HH.out.2.2.2.2.1.size)
  have hz1' := (hb1.block _ (lt_of HH.out.2.2.2.2.2.1)).trans HH.out.2.2.2.2.2.1
  obtain ⟨c0, c1, c2⟩ := bl3 hz1'
  have hzl := lt_of hz1'
  have H1 : Hid _ := And.intro hbw1 hz1'
  clear hb1 hbw1 hz1'
  cases neg
  case' false =>
    have HS : Hid (TI1 w box T l ((l.length : Int) - sc) 0 [] (.slice none 0 0) w1) := ⟨by rw [HX.out]; exact H1.out.2, ⟨rfl, .inl ⟨rfl, rfl⟩⟩, H1.out.1, by rw [HH.out.2.2.1]; simp, by simp⟩
    go_wp2_with fail
    clear c0 c1 c2
  case' true =>
    go_wp2_with (first | (at_builtin; refine wpList_app _ rfl (.tmp 11) (.tmp 12) 32 rfl (w.heap.size + 1) 5 i5 z5 1 1 Tryz.underlying32 hi5 hz0 hz1 hz3 hzc (by decide) (.slice none 0 0) 0 [] rfl ⟨rfl, .inl ⟨rfl, rfl⟩⟩ (some ⟨w1.heap.size, 0, none⟩) 1 1 [.int .u8 45] rfl rfl (.inr ⟨_, rfl, World.news_of_block (nw_heap w1 _)⟩) (by intro u hu; simp at hu; subst hu; rfl) (by unfold maxLen; omega) (by omega) (by simp only [sza]; omega) ?_; intro v5 w5 hown5 hg5 hat5; have h5 := tgrow (out := []) (d := 45) ⟨H1.out.2, ⟨rfl, .inl ⟨rfl, rfl⟩⟩, H1.out.1⟩ hg5 hown5; have hz5 := h5.1; obtain ⟨e0, e1, e2⟩ := bl3 hz5; have hz5l := lt_of hz5; have H5 : Hid _ := h5; clear hown5 hg5 hat5 h5 hz5))
    have HS : Hid (TI1 w box T l ((l.length : Int) - sc) 0 [45] v5 w5) := ⟨by rw [HX.out]; exact H5.out.1, H5.out.2.1, H5.out.2.2, by rw [HH.out.2.2.1]; simp, by simp⟩
    clear c0 c1 c2 e0 e1 e2 H5
  all_goals
    go_loopg [3, 17] l.length (fun m v3 v17 wr => ∃ (i : Nat) (out : List Int), v17 = .int .i64 i ∧ i + m = l.length ∧ TI1 w box T l ((l.length : Int) - sc) i out v3 wr)
    case atStart => exact ⟨0, _, rfl, by omega, HS.out⟩
    case round =>
      obtain ⟨i, out, rfl, him, hI⟩ := hrel
      by_cases hi : i < l.length
      · obtain ⟨m, rfl⟩ : ∃ m, gk = m + 1 := ⟨gk - 1, by omega⟩
        have x0w := HH.out.1 i hi
        have x0 := (hI.bel.cell (p := ⟨g, o + i, none⟩) hg).trans x0w
        have hz := hI.z
        rw [HX.out] at hz
        obtain ⟨q0, q1, q2⟩ := bl3 hz
        have hzlt := lt_of hz
        have hd9 := HH.out.2.1 _ (List.getElem_mem hi)
        have hdr : l.drop i = (l[i]'hi) :: l.drop (i + 1) := List.drop_eq_getElem_cons hi
        generalize (l[i]'hi) = d at *
        obtain ⟨hd0, hd1⟩ := hd9
        have ek : (l.length : Int) - sc - ((i + 1 : Nat) : Int) = (l.length : Int) - sc - i - 1 := by omega
        have HI : Hid _ := And.intro hI (And.intro ek hdr)
        clear hI hz ek hdr
        go_wp2_with fail
        refine Calls.mono (HH.out.2.2.2.2.2.2.2 _ HI.out.1.bel) ?_
        rintro e w2 ⟨rfl, hb2⟩
        have hI2 := HI.out.1.below hb2
        obtain ⟨va, vc, rfl⟩ := row_form hI2.row
        clear q0 q1 q2 hzlt x0 hb2
        have hz := hI2.z
        rw [HX.out] at hz
        obtain ⟨q0, q1, q2⟩ := bl3 hz
        have hol := hI2.len
        have hzlt := lt_of hz
        have heq := hI2.eq
        rw [HI.out.2.2, ptI] at heq
        by_cases hp : (i : Int) = (l.length : Int) - sc
        · have hpb : ((i : Int) == (l.length : Int) - sc) = true := by simpa using hp
          rw [if_pos (by omega)] at heq
          have HJ : Hid _ := And.intro hI2 (And.intro heq HI.out.2.1)
          clear hI2 heq hz hp HI
          go_wp2_with (first | (at_builtin; refine wpList_app _ rfl (.tmp 26) (.tmp 27) 32 rfl (w.heap.size + 1) 5 i5 z5 1 1 Tryz.underlying32 hi5 hz0 hz1 hz3 hzc (by decide) (.slice va out.length vc) out.length (out.map (Value.int .u8)) rfl (World.ownsRow.alloc HJ.out.1.row _) (some ⟨w2.heap.size, 0, none⟩) 1 1 [.int .u8 46] rfl rfl (.inr ⟨_, rfl, World.news_of_block (nw_heap w2 _)⟩) (by intro u hu; simp at hu; subst hu; rfl) (by unfold maxLen; omega) (by omega) (by simp only [sza]; omega) ?_; intro v5' w6 hown5 hg5 hat5; have h6 := tgrow ⟨HJ.out.1.z, HJ.out.1.row, HJ.out.1.bel⟩ hg5 hown5; clear hown5 hg5 hat5; have hl6 : (out ++ [46]).length = out.length + 1 := (by simp); rw [hl6] at h6; obtain ⟨va6, vc6, rfl⟩ := row_form h6.2.1; have hz6 := h6.1; rw [HX.out] at hz6; obtain ⟨t0, t1, t2⟩ := bl3 hz6; have hz6lt := lt_of hz6; have H6 : Hid _ := h6; clear h6 hz6 hl6) | (at_builtin; refine wpList_app _ rfl (.tmp 29) (.tmp 32) 32 rfl (w.heap.size + 1) 5 i5 z5 1 1 Tryz.underlying32 hi5 hz0 hz1 hz3 hzc (by decide) (.slice va6 (out.length + 1) vc6) (out.length + 1) ((out ++ [46]).map (Value.int .u8)) rfl (World.ownsRow.alloc H6.out.2.1 _) (some ⟨w6.heap.size, 0, none⟩) 1 1 [.int .u8 (48 + d)] rfl rfl (.inr ⟨_, rfl, World.news_of_block (nw_heap w6 _)⟩) (by intro u hu; simp at hu; subst hu; rfl) (by unfold maxLen; omega) (by omega) (by simp only [sza]; omega) ?_; intro v7 w7 hown7 hg7 hat7; have H7 : Hid _ := And.intro hown7 hg7; clear hown7 hg7 hat7))
          go_roundg m
          case measure => omega
          case rel =>
            have hl6 : (out ++ [46]).length = out.length + 1 := by simp
            have h6 := H6.out
            rw [← hl6] at h6
            have h7 := tgrow h6 (by rw [hl6]; exact H7.out.2) (by rw [hl6]; exact H7.out.1)
            exact ⟨i + 1, out ++ [46] ++ [48 + d], by simp, by omega, h7.1, h7.2.1, h7.2.2, by rw [HJ.out.2.1, HJ.out.2.2]; simp, by simp; omega⟩
        · have hpb : ((i : Int) == (l.length : Int) - sc) = false := by simpa using hp
          rw [if_neg (by omega), List.nil_append] at heq
          have HJ : Hid _ := And.intro hI2 (And.intro heq HI.out.2.1)
          clear hI2 heq hz hp HI
          go_wp2_with (first | (at_builtin; refine wpList_app _ rfl (.tmp 29) (.tmp 32) 32 rfl (w.heap.size + 1) 5 i5 z5 1 1 Tryz.underlying32 hi5 hz0 hz1 hz3 hzc (by decide) (.slice va out.length vc) out.length (out.map (Value.int .u8)) rfl (World.ownsRow.alloc HJ.out.1.row _) (some ⟨w2.heap.size, 0, none⟩) 1 1 [.int .u8 (48 + d)] rfl rfl (.inr ⟨_, rfl, World.news_of_block (nw_heap w2 _)⟩) (by intro u hu; simp at hu; subst hu; rfl) (by unfold maxLen; omega) (by omega) (by simp only [sza]; omega) ?_; intro v5' w5' hown5 hg5 hat5; have h6 := tgrow ⟨HJ.out.1.z, HJ.out.1.row, HJ.out.1.bel⟩ hg5 hown5; have H6 : Hid _ := h6; clear hown5 hg5 hat5 h6))
          go_roundg m
          case measure => omega
          case rel => exact ⟨i + 1, out ++ [48 + d], by simp, by omega, H6.out.1, H6.out.2.1, H6.out.2.2, by rw [HJ.out.2.1, HJ.out.2.2]; simp, by simp; omega⟩
      · obtain rfl : i = l.length := by omega
        obtain ⟨va, vc, rfl⟩ := row_form hI.row
        have hT : T = out := by rw [hI.eq, List.drop_length]; simp [ptI]
        subst hT
        have hbt : BtR wr (.slice va T.length vc) T := btr_own hI.row rfl HH.out.2.2.2.1
        have cv := conv_str hbt
        have HB : Hid _ := hI.bel
        clear hI hbt
        go_wp2_with fail
        go_ret
        exact ⟨rfl, HB.out⟩
end Go.Proofs.YtgaegajcejpmdaaGreatDoor.Dc
