/- The program: Text. -/
import Derived.Test.YtgaegajcejpmdaaGreatDoorHDcD3
namespace Go.Proofs.YtgaegajcejpmdaaGreatDoor.Dc
open Go.RowKit
set_option linter.unusedVariables false

theorem TI1.below {w wr w2 : World} {box : Obj} {T l out : List Int} {k : Int} {i : Nat} {v : Value} (h : TI1 w box T l k i out v wr) (hb : Below wr.heap.size wr w2) : TI1 w box T l k i out v w2 :=
  ⟨(hb.block _ (lt_of h.z)).trans h.z, row_below h.row hb, h.bel.trans (hb.mono h.bel.size), h.eq, h.len⟩
set_option maxRecDepth 100000 in
set_option maxHeartbeats 3200000 in
theorem text_p {w : World} {v : Value} {n : Nm} (h : NmR w v n) : Calls Tryz.prog 32 #[nmV n.1 v n.2.2] w fun e w' => e = .returned (.string (sb (txS n))) ∧ Below w.heap.size w w' := by
  obtain ⟨i5, z5, hi5, hz0, hzc, hz1, hz3⟩ := info5p
  have hlen := h.cn.1.len
  have hle := h.le
  have hdg := h.cn.1.dg
  have htx := tx_pt n (by omega)
  have htb := tx_byte hdg
  have hbt := h.bt
  have hb0 : Below w.heap.size w (w.alloc (.cells #[.bool n.1, v, .int .i64 n.2.2] 34)) := (Below.refl _ _).alloc (Nat.le_refl _) _
  have hR := right_nm (h.below hb0)
  have hA := fun W (hW : Below w.heap.size w W) => ahead_p (h.bt.below hW) n.1 n.2.2 (by omega) (by omega)
  obtain ⟨neg, l, sc⟩ := n
  dsimp only at *
  obtain ⟨a, cap, rfl, h1, h2, h3, h4⟩ := hbt
  unfold maxLen at h2
  rcases h4 with he | ⟨g, o, rfl, hg, hc⟩
  · rw [he] at hlen; simp at hlen
  generalize txS (neg, l, sc) = T at *
  have hbk := nw_heap w (.cells #[.bool neg, .slice (some ⟨g, o, none⟩) l.length cap, .int .i64 sc] 34)
  have HH : Hid _ := And.intro hc (And.intro hdg (And.intro htx (And.intro htb (And.intro hb0 (And.intro hbk (And.intro hR hA))))))
  clear hc hdg htx htb hb0 hbk h h3 hR hA
  obtain ⟨box, hbox⟩ : ∃ box : Obj, box = .cells #[.bool neg, .slice (some ⟨g, o, none⟩) l.length cap, .int .i64 sc] 34 (0, 0) := ⟨_, rfl⟩
  have HX : Hid _ := hbox
  clear hbox
  go_enter Tryz.func32, Tryz.ntmps32
  go_wp2_with fail
  refine Calls.mono HH.out.2.2.2.2.2.2.1 ?_
  rintro e w1 ⟨rfl, hb1⟩
  have hbw1 := HH.out.2.2.2.2.1.trans (hb1.mono HH.out.2.2.2.2.1.size)
  have hz1' := (hb1.block _ (lt_of HH.out.2.2.2.2.2.1)).trans HH.out.2.2.2.2.2.1
  obtain ⟨c0, c1, c2⟩ := bl3 hz1'
  have hzl := lt_of hz1'
  have H1 : Hid _ := And.intro hbw1 hz1'
  clear hb1 hbw1 hz1'
  cases neg
  case' false =>
    have HS : Hid (TI1 w box T l ((l.length : Int) - sc) 0 [] (.slice none 0 0) w1) := ⟨by rw [HX.out]; exact H1.out.2, ⟨rfl, .inl ⟨rfl, rfl⟩⟩, H1.out.1, by rw [HH.out.2.2.1]; simp, by simp⟩
    go_wp2_with fail
    clear c0 c1 c2
  case' true =>
    go_wp2_with (first | (at_builtin; refine wpList_app _ rfl (.tmp 11) (.tmp 12) 32 rfl (w.heap.size + 1) 5 i5 z5 1 1 Tryz.underlying32 hi5 hz0 hz1 hz3 hzc (by decide) (.slice none 0 0) 0 [] rfl ⟨rfl, .inl ⟨rfl, rfl⟩⟩ (some ⟨w1.heap.size, 0, none⟩) 1 1 [.int .u8 45] rfl rfl (.inr ⟨_, rfl, World.news_of_block (nw_heap w1 _)⟩) (by intro u hu; simp at hu; subst hu; rfl) (by unfold maxLen; omega) (by omega) (by simp only [sza]; omega) ?_; intro v5 w5 hown5 hg5 hat5; have h5 := tgrow (out := []) (d := 45) ⟨H1.out.2, ⟨rfl, .inl ⟨rfl, rfl⟩⟩, H1.out.1⟩ hg5 hown5; have hz5 := h5.1; obtain ⟨e0, e1, e2⟩ := bl3 hz5; have hz5l := lt_of hz5; have H5 : Hid _ := h5; clear hown5 hg5 hat5 h5 hz5))
    have HS : Hid (TI1 w box T l ((l.length : Int) - sc) 0 [45] v5 w5) := ⟨by rw [HX.out]; exact H5.out.1, H5.out.2.1, H5.out.2.2, by rw [HH.out.2.2.1]; simp, by simp⟩
    clear c0 c1 c2 e0 e1 e2 H5
  all_goals
    go_loopg [3, 17] l.length (fun m v3 v17 wr => ∃ (i : Nat) (out : List Int), v17 = .int .i64 i ∧ i + m = l.length ∧ TI1 w box T l ((l.length : Int) - sc) i out v3 wr)
    case atStart => exact ⟨0, _, rfl, by omega, HS.out⟩
    case round =>
      obtain ⟨i, out, rfl, him, hI⟩ := hrel
      by_cases hi : i < l.length
      · obtain ⟨m, rfl⟩ : ∃ m, gk = m + 1 := ⟨gk - 1, by omega⟩
        have x0w := HH.out.1 i hi
        have x0 := (hI.bel.cell (p := ⟨g, o + i, none⟩) hg).trans x0w
        have hz := hI.z
        rw [HX.out] at hz
        obtain ⟨q0, q1, q2⟩ := bl3 hz
        have hzlt := lt_of hz
        have hd9 := HH.out.2.1 _ (List.getElem_mem hi)
        have hdr : l.drop i = (l[i]'hi) :: l.drop (i + 1) := List.drop_eq_getElem_cons hi
        generalize (l[i]'hi) = d at *
        obtain ⟨hd0, hd1⟩ := hd9
        have ek : (l.length : Int) - sc - ((i + 1 : Nat) : Int) = (l.length : Int) - sc - i - 1 := by omega
        have HI : Hid _ := And.intro hI (And.intro ek hdr)
        clear hI hz ek hdr
        go_wp2_with fail
        refine Calls.mono (HH.out.2.2.2.2.2.2.2 _ HI.out.1.bel) ?_
        rintro e w2 ⟨rfl, hb2⟩
        have hI2 := HI.out.1.below hb2
        obtain ⟨va, vc, rfl⟩ := row_form hI2.row
        clear q0 q1 q2 hzlt x0 hb2
        have hz := hI2.z
        rw [HX.out] at hz
        obtain ⟨q0, q1, q2⟩ := bl3 hz
        have hol := hI2.len
        have hzlt := lt_of hz
        have heq := hI2.eq
        rw [HI.out.2.2, ptI] at heq
        by_cases hp : (i : Int) = (l.length : Int) - sc
        · have hpb : ((i : Int) == (l.length : Int) - sc) = true := by simpa using hp
          rw [if_pos (by omega)] at heq
          have HJ : Hid _ := And.intro hI2 (And.intro heq HI.out.2.1)
          clear hI2 heq hz hp HI
          go_wp2_with (first | (at_builtin; refine wpList_app _ rfl (.tmp 26) (.tmp 27) 32 rfl (w.heap.size + 1) 5 i5 z5 1 1 Tryz.underlying32 hi5 hz0 hz1 hz3 hzc (by decide) (.slice va out.length vc) out.length (out.map (Value.int .u8)) rfl (World.ownsRow.alloc HJ.out.1.row _) (some ⟨w2.heap.size, 0, none⟩) 1 1 [.int .u8 46] rfl rfl (.inr ⟨_, rfl, World.news_of_block (nw_heap w2 _)⟩) (by intro u hu; simp at hu; subst hu; rfl) (by unfold maxLen; omega) (by omega) (by simp only [sza]; omega) ?_; intro v5' w6 hown5 hg5 hat5; have h6 := tgrow ⟨HJ.out.1.z, HJ.out.1.row, HJ.out.1.bel⟩ hg5 hown5; clear hown5 hg5 hat5; have hl6 : (out ++ [46]).length = out.length + 1 := (by simp); rw [hl6] at h6; obtain ⟨va6, vc6, rfl⟩ := row_form h6.2.1; have hz6 := h6.1; rw [HX.out] at hz6; obtain ⟨t0, t1, t2⟩ := bl3 hz6; have hz6lt := lt_of hz6; have H6 : Hid _ := h6; clear h6 hz6 hl6) | (at_builtin; refine wpList_app _ rfl (.tmp 29) (.tmp 32) 32 rfl (w.heap.size + 1) 5 i5 z5 1 1 Tryz.underlying32 hi5 hz0 hz1 hz3 hzc (by decide) (.slice va6 (out.length + 1) vc6) (out.length + 1) ((out ++ [46]).map (Value.int .u8)) rfl (World.ownsRow.alloc H6.out.2.1 _) (some ⟨w6.heap.size, 0, none⟩) 1 1 [.int .u8 (48 + d)] rfl rfl (.inr ⟨_, rfl, World.news_of_block (nw_heap w6 _)⟩) (by intro u hu; simp at hu; subst hu; rfl) (by unfold maxLen; omega) (by omega) (by simp only [sza]; omega) ?_; intro v7 w7 hown7 hg7 hat7; have H7 : Hid _ := And.intro hown7 hg7; clear hown7 hg7 hat7))
          go_roundg m
          case measure => omega
          case rel =>
            have hl6 : (out ++ [46]).length = out.length + 1 := by simp
            have h6 := H6.out
            rw [← hl6] at h6
            have h7 := tgrow h6 (by rw [hl6]; exact H7.out.2) (by rw [hl6]; exact H7.out.1)
            exact ⟨i + 1, out ++ [46] ++ [48 + d], by simp, by omega, h7.1, h7.2.1, h7.2.2, by rw [HJ.out.2.1, HJ.out.2.2]; simp, by simp; omega⟩
        · have hpb : ((i : Int) == (l.length : Int) - sc) = false := by simpa using hp
          rw [if_neg (by omega), List.nil_append] at heq
          have HJ : Hid _ := And.intro hI2 (And.intro heq HI.out.2.1)
          clear hI2 heq hz hp HI
          go_wp2_with (first | (at_builtin; refine wpList_app _ rfl (.tmp 29) (.tmp 32) 32 rfl (w.heap.size + 1) 5 i5 z5 1 1 Tryz.underlying32 hi5 hz0 hz1 hz3 hzc (by decide) (.slice va out.length vc) out.length (out.map (Value.int .u8)) rfl (World.ownsRow.alloc HJ.out.1.row _) (some ⟨w2.heap.size, 0, none⟩) 1 1 [.int .u8 (48 + d)] rfl rfl (.inr ⟨_, rfl, World.news_of_block (nw_heap w2 _)⟩) (by intro u hu; simp at hu; subst hu; rfl) (by unfold maxLen; omega) (by omega) (by simp only [sza]; omega) ?_; intro v5' w5' hown5 hg5 hat5; have h6 := tgrow ⟨HJ.out.1.z, HJ.out.1.row, HJ.out.1.bel⟩ hg5 hown5; have H6 : Hid _ := h6; clear hown5 hg5 hat5 h6))
          go_roundg m
          case measure => omega
          case rel => exact ⟨i + 1, out ++ [48 + d], by simp, by omega, H6.out.1, H6.out.2.1, H6.out.2.2, by rw [HJ.out.2.1, HJ.out.2.2]; simp, by simp; omega⟩
      · obtain rfl : i = l.length := by omega
        obtain ⟨va, vc, rfl⟩ := row_form hI.row
        have hT : T = out := by rw [hI.eq, List.drop_length]; simp [ptI]
        subst hT
        have hbt : BtR wr (.slice va T.length vc) T := btr_own hI.row rfl HH.out.2.2.2.1
        have cv := conv_str hbt
        have HB : Hid _ := hI.bel
        clear hI hbt
        go_wp2_with fail
        go_ret
        exact ⟨rfl, HB.out⟩
end Go.Proofs.YtgaegajcejpmdaaGreatDoor.Dc
