/- The second telling: Text. -/
import Derived.Test.YtakemkhgaicckaaB0
namespace Go.Proofs.Ytakemkhgaicckaa
open Go.RowKit
set_option linter.unusedVariables false

set_option maxRecDepth 100000 in
set_option maxHeartbeats 3200000 in
theorem text_r {w : World} {v : Value} {n : Nm} (h : NmR w v n) : Calls Try.prog 15 #[nmV n.1 v n.2.2] w fun e w' => e = .returned (.string (sb (txS n))) ∧ Below w.heap.size w w' := by
  obtain ⟨i5, z5, hi5, hz0, hzc, hz1, hz3⟩ := info5p
  have hlen := h.cn.1.len
  have hle := h.le
  have hdg := h.cn.1.dg
  have htx := tx_pt n (by omega)
  have htb := tx_byte hdg
  have hbt := h.bt
  obtain ⟨neg, l, sc⟩ := n
  dsimp only at *
  obtain ⟨a, cap, rfl, h1, h2, h3, h4⟩ := hbt
  unfold maxLen at h2
  rcases h4 with he | ⟨g, o, rfl, hg, hc⟩
  · rw [he] at hlen; simp at hlen
  generalize txS (neg, l, sc) = T at *
  have hb0 : Below w.heap.size w (w.alloc (.cells #[.bool neg, .slice (some ⟨g, o, none⟩) l.length cap, .int .i64 sc] 29)) := (Below.refl _ _).alloc (Nat.le_refl _) _
  have hbk := nw_heap w (.cells #[.bool neg, .slice (some ⟨g, o, none⟩) l.length cap, .int .i64 sc] 29)
  obtain ⟨c0, c1, c2⟩ := bl3 hbk
  have HH : Hid _ := And.intro hc (And.intro hdg (And.intro htx (And.intro htb (And.intro hb0 hbk))))
  clear hc hdg htx htb hb0 hbk h h3
  obtain ⟨box, hbox⟩ : ∃ box : Obj, box = .cells #[.bool neg, .slice (some ⟨g, o, none⟩) l.length cap, .int .i64 sc] 29 (0, 0) := ⟨_, rfl⟩
  have HX : Hid _ := hbox
  clear hbox
  go_enter Try.func15, Try.ntmps15
  cases neg
  case' false =>
    have HS : Hid (TI1 w box T l ((l.length : Int) - sc) 0 [] (.slice none 0 0) (w.alloc (.cells #[.bool false, .slice (some ⟨g, o, none⟩) l.length cap, .int .i64 sc] 29))) := ⟨by rw [HX.out]; exact HH.out.2.2.2.2.2, ⟨rfl, .inl ⟨rfl, rfl⟩⟩, HH.out.2.2.2.2.1, by rw [HH.out.2.2.1]; simp, by simp⟩
    clear c0 c1 c2
    go_wp2_with fail
  case' true =>
    go_wp2_with (first | (at_builtin; refine wpList_app _ rfl (.tmp 7) (.tmp 8) 22 rfl (w.heap.size + 1) 5 i5 z5 1 1 Try.underlying22 hi5 hz0 hz1 hz3 hzc (by decide) (.slice none 0 0) 0 [] rfl ⟨rfl, .inl ⟨rfl, rfl⟩⟩ (some ⟨w.heap.size + 1, 0, none⟩) 1 1 [.int .u8 45] rfl rfl (.inr ⟨_, rfl, World.news_of_block (by have := nw_heap (w.alloc (.cells #[.bool true, .slice (some ⟨g, o, none⟩) l.length cap, .int .i64 sc] 29)) (.cells #[.int .u8 45] 5); rwa [sza] at this)⟩) (by intro u hu; simp at hu; subst hu; rfl) (by unfold maxLen; omega) (by omega) (by simp) ?_; intro v5 w5 hown5 hg5 hat5; have H5 : Hid _ := And.intro hown5 hg5; clear hown5 hg5 hat5))
    have HS : Hid (TI1 w box T l ((l.length : Int) - sc) 0 [45] v5 w5) := by
      have hba : Below (w.alloc (.cells #[.bool true, .slice (some ⟨g, o, none⟩) l.length cap, .int .i64 sc] 29)).heap.size (w.alloc (.cells #[.bool true, .slice (some ⟨g, o, none⟩) l.length cap, .int .i64 sc] 29)) ((w.alloc (.cells #[.bool true, .slice (some ⟨g, o, none⟩) l.length cap, .int .i64 sc] 29)).alloc (.cells #[.int .u8 45] 5)) := (Below.refl _ _).alloc (Nat.le_refl _) _
      refine ⟨?_, H5.out.1, ?_, ?_, by simp⟩
      · rw [HX.out]
        exact grown_o H5.out.2 ((hba.block _ (lt_of HH.out.2.2.2.2.2)).trans HH.out.2.2.2.2.2) (fun e => by simp [Value.ownBlock] at e)
      · exact (HH.out.2.2.2.2.1.alloc (by simp) _).grown H5.out.2 (by simp; omega) (fun k q => by simp [Value.ownBlock] at q)
      · rw [HH.out.2.2.1]; simp
    clear c0 c1 c2 H5
  all_goals
    go_loopg [3, 4] l.length (fun m v3 v4 wr => ∃ (i : Nat) (out : List Int), v4 = .int .i64 i ∧ i + m = l.length ∧ TI1 w box T l ((l.length : Int) - sc) i out v3 wr)
    case atStart => exact ⟨0, _, rfl, by omega, HS.out⟩
    case round =>
      obtain ⟨i, out, rfl, him, hI⟩ := hrel
      obtain ⟨va, vc, rfl⟩ := row_form hI.row
      have hz := hI.z
      rw [HX.out] at hz
      obtain ⟨q0, q1, q2⟩ := bl3 hz
      have hol := hI.len
      have hzlt := lt_of hz
      by_cases hi : i < l.length
      · obtain ⟨m, rfl⟩ : ∃ m, gk = m + 1 := ⟨gk - 1, by omega⟩
        have x0w := HH.out.1 i hi
        have x0 := (hI.bel.cell (p := ⟨g, o + i, none⟩) hg).trans x0w
        have heq := hI.eq
        rw [List.drop_eq_getElem_cons hi, ptI] at heq
        have hd9 := HH.out.2.1 _ (List.getElem_mem hi)
        generalize (l[i]'hi) = d at *
        obtain ⟨hd0, hd1⟩ := hd9
        have ek : (l.length : Int) - sc - ((i + 1 : Nat) : Int) = (l.length : Int) - sc - i - 1 := by omega
        by_cases hp : (i : Int) = (l.length : Int) - sc
        · have hpb : ((i : Int) == (l.length : Int) - sc) = true := by simpa using hp
          rw [if_pos (by omega)] at heq
          have HI : Hid _ := And.intro hI (And.intro heq ek)
          clear hI heq ek hz hp
          go_wp2_with (first | (at_builtin; refine wpList_app _ rfl (.tmp 25) (.tmp 26) 22 rfl (w.heap.size + 1) 5 i5 z5 1 1 Try.underlying22 hi5 hz0 hz1 hz3 hzc (by decide) (.slice va out.length vc) out.length (out.map (Value.int .u8)) rfl (World.ownsRow.alloc HI.out.1.row _) (some ⟨wr.heap.size, 0, none⟩) 1 1 [.int .u8 46] rfl rfl (.inr ⟨_, rfl, World.news_of_block (nw_heap wr _)⟩) (by intro u hu; simp at hu; subst hu; rfl) (by unfold maxLen; omega) (by omega) (by simp only [sza]; omega) ?_; intro v5' w6 hown5 hg5 hat5; have h6 := tgrow ⟨HI.out.1.z, HI.out.1.row, HI.out.1.bel⟩ hg5 hown5; clear hown5 hg5 hat5; have hl6 : (out ++ [46]).length = out.length + 1 := (by simp); rw [hl6] at h6; obtain ⟨va6, vc6, rfl⟩ := row_form h6.2.1; have hz6 := h6.1; rw [HX.out] at hz6; obtain ⟨t0, t1, t2⟩ := bl3 hz6; have hz6lt := lt_of hz6; have x6 := (h6.2.2.cell (p := ⟨g, o + i, none⟩) hg).trans x0w; have H6 : Hid _ := h6; clear h6 hz6 hl6) | (at_builtin; refine wpList_app _ rfl (.tmp 28) (.tmp 35) 22 rfl (w.heap.size + 1) 5 i5 z5 1 1 Try.underlying22 hi5 hz0 hz1 hz3 hzc (by decide) (.slice va6 (out.length + 1) vc6) (out.length + 1) ((out ++ [46]).map (Value.int .u8)) rfl (World.ownsRow.alloc H6.out.2.1 _) (some ⟨w6.heap.size, 0, none⟩) 1 1 [.int .u8 (48 + d)] rfl rfl (.inr ⟨_, rfl, World.news_of_block (nw_heap w6 _)⟩) (by intro u hu; simp at hu; subst hu; rfl) (by unfold maxLen; omega) (by omega) (by simp only [sza]; omega) ?_; intro v7 w7 hown7 hg7 hat7; have H7 : Hid _ := And.intro hown7 hg7; clear hown7 hg7 hat7))
          go_roundg m
          case measure => omega
          case rel =>
            have hl6 : (out ++ [46]).length = out.length + 1 := by simp
            have h6 := H6.out
            rw [← hl6] at h6
            have h7 := tgrow h6 (by rw [hl6]; exact H7.out.2) (by rw [hl6]; exact H7.out.1)
            exact ⟨i + 1, out ++ [46] ++ [48 + d], by simp, by omega, h7.1, h7.2.1, h7.2.2, by rw [HI.out.2.1, HI.out.2.2]; simp, by simp; omega⟩
        · have hpb : ((i : Int) == (l.length : Int) - sc) = false := by simpa using hp
          rw [if_neg (by omega), List.nil_append] at heq
          have HI : Hid _ := And.intro hI (And.intro heq ek)
          clear hI heq ek hz hp
          go_wp2_with (first | (at_builtin; refine wpList_app _ rfl (.tmp 28) (.tmp 35) 22 rfl (w.heap.size + 1) 5 i5 z5 1 1 Try.underlying22 hi5 hz0 hz1 hz3 hzc (by decide) (.slice va out.length vc) out.length (out.map (Value.int .u8)) rfl (World.ownsRow.alloc HI.out.1.row _) (some ⟨wr.heap.size, 0, none⟩) 1 1 [.int .u8 (48 + d)] rfl rfl (.inr ⟨_, rfl, World.news_of_block (nw_heap wr _)⟩) (by intro u hu; simp at hu; subst hu; rfl) (by unfold maxLen; omega) (by omega) (by simp only [sza]; omega) ?_; intro v5' w5' hown5 hg5 hat5; have h6 := tgrow ⟨HI.out.1.z, HI.out.1.row, HI.out.1.bel⟩ hg5 hown5; have H6 : Hid _ := h6; clear hown5 hg5 hat5 h6))
          go_roundg m
          case measure => omega
          case rel => exact ⟨i + 1, out ++ [48 + d], by simp, by omega, H6.out.1, H6.out.2.1, H6.out.2.2, by rw [HI.out.2.1, HI.out.2.2]; simp, by simp; omega⟩
      · obtain rfl : i = l.length := by omega
        have hT : T = out := by rw [hI.eq, List.drop_length]; simp [ptI]
        subst hT
        have hbt : BtR wr (.slice va T.length vc) T := btr_own hI.row rfl HH.out.2.2.2.1
        have cv := conv_str hbt
        have HB : Hid _ := hI.bel
        clear hI hz hbt
        go_wp2_with fail
        go_ret
        exact ⟨rfl, HB.out⟩
end Go.Proofs.Ytakemkhgaicckaa
