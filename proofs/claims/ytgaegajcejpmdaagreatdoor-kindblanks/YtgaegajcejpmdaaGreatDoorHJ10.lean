/- Joined: HDcD1, HDcD2. -/
import Derived.Test.YtgaegajcejpmdaaGreatDoorHDcB0
import Derived.Test.YtgaegajcejpmdaaGreatDoorHJ7
namespace Go.Proofs.YtgaegajcejpmdaaGreatDoor.Dc
open Go.RowKit
set_option linter.unusedVariables false

theorem ahead_p {w : World} {v : Value} {l : List Int} (h : BtR w v l) (neg : Bool) (sc : Int) (h0 : 0 ≤ sc) (h1 : sc ≤ 100000) : Calls Tryz.prog 56 #[nmV neg v sc] w fun e w' => e = .returned (.int .i64 ((l.length : Int) - sc)) ∧ Below w.heap.size w w' := by
  obtain ⟨a, cap, rfl, hc1, hc2⟩ := h.form
  unfold maxLen at hc2
  have hb0 : Below w.heap.size w (w.alloc (.cells #[.bool neg, .slice a l.length cap, .int .i64 sc] 34)) := (Below.refl _ _).alloc (Nat.le_refl _) _
  have HB : Hid _ := hb0
  clear hb0
  go_enter Tryz.func56, Tryz.ntmps56
  go_wp2_with fail
  go_ret
  exact ⟨rfl, HB.out⟩
def noS (l : List Int) : Bool := decide (l.length = 1) && (l.head? == some 0)
theorem nought_p {w : World} {v : Value} {l : List Int} (h : BtR w v l) (neg : Bool) (sc : Int) : Calls Tryz.prog 97 #[nmV neg v sc] w fun e w' => e = .returned (.bool (noS l)) ∧ Below w.heap.size w w' := by
  obtain ⟨a, cap, rfl, hc1, hc2, h3, h4⟩ := h
  have hb0 : Below w.heap.size w (w.alloc (.cells #[.bool neg, .slice a l.length cap, .int .i64 sc] 34)) := (Below.refl _ _).alloc (Nat.le_refl _) _
  have hn : noS l = (decide (l.length = 1) && (l.head? == some 0)) := rfl
  generalize noS l = N at *
  by_cases h1 : l.length = 1
  · obtain ⟨d, rfl⟩ := List.length_eq_one_iff.1 h1
    rcases h4 with h4 | ⟨g, o, rfl, h5, h6⟩
    · simp at h4
    have x0 := (hb0.cell (p := ⟨g, o, none⟩) h5).trans (h6 0 (by simp))
    simp only [List.getElem_cons_zero] at x0
    have hbd := h3 d (by simp)
    have hN : N = (d == 0) := by rw [hn]; simp
    have HB : Hid _ := And.intro hb0 hN
    clear hb0 hn h3 h6 hN h1
    simp only [List.length_cons, List.length_nil, Nat.zero_add] at *
    go_enter Tryz.func97, Tryz.ntmps97
    go_wp2_with fail
    go_ret
    exact ⟨by rw [HB.out.2]; rfl, HB.out.1⟩
  · have hN : N = false := by rw [hn]; simp [h1]
    have hg : (((l.length : Nat) : Int) == 1) = false := by simp; omega
    have HB : Hid _ := And.intro hb0 hN
    clear hb0 hn h3 h4 hN h1
    go_enter Tryz.func97, Tryz.ntmps97
    go_wp2_with fail
    go_ret
    exact ⟨by rw [HB.out.2]; rfl, HB.out.1⟩
/-- The greatest byte. -/
def mxS (l : List Int) : Int := l.foldl max 0
theorem mx_fold : ∀ (l : List Int) (a : Int), l.foldl max a ≤ 9 ↔ a ≤ 9 ∧ ∀ d ∈ l, d ≤ 9
  | [], a => by simp
  | d :: l, a => by
    rw [List.foldl_cons, mx_fold l]
    simp only [List.mem_cons, forall_eq_or_imp]
    constructor
    · rintro ⟨q1, q2⟩; exact ⟨by omega, by omega, q2⟩
    · rintro ⟨q1, q2, q3⟩; exact ⟨by omega, q3⟩
theorem mx_nine (l : List Int) : decide (mxS l ≤ 9) = l.all (fun d => decide (d ≤ 9)) := by
  rw [Bool.eq_iff_iff]
  simp only [decide_eq_true_eq, List.all_eq_true]
  unfold mxS
  rw [mx_fold]
  simp
theorem mx_bd : ∀ (l : List Int) (a : Int), 0 ≤ a → a < 256 → (∀ d ∈ l, 0 ≤ d ∧ d < 256) → 0 ≤ l.foldl max a ∧ l.foldl max a < 256
  | [], a, h0, h1, _ => ⟨h0, h1⟩
  | d :: l, a, h0, h1, h => by
    have := h d (by simp)
    rw [List.foldl_cons]
    exact mx_bd l _ (by omega) (by omega) (fun x hx => h x (by simp [hx]))
set_option maxRecDepth 100000 in
set_option maxHeartbeats 1600000 in
theorem max_p {w : World} {v : Value} {l : List Int} (h : BtR w v l) (hn : l ≠ []) : Calls Tryz.prog 96 #[v] w fun e w' => e = .returned (.int .u8 (mxS l)) ∧ Below w.heap.size w w' := by
  obtain ⟨a, cap, rfl, hc1, hc2, h3, h4⟩ := h
  unfold maxLen at hc2
  rcases h4 with h4 | ⟨g, o, rfl, h5, h6⟩
  · exact absurd h4 hn
  have hpos : 0 < l.length := List.length_pos_iff.2 hn
  have x0 := h6 0 hpos
  rw [Nat.add_zero] at x0
  have hb0 := h3 _ (List.getElem_mem hpos)
  have hM : mxS l = (l.drop 1).foldl max (l[0]'hpos) := by
    unfold mxS
    cases l with
    | nil => exact absurd rfl hn
    | cons d l =>
      simp only [List.foldl_cons, List.drop_succ_cons, List.drop_zero, List.getElem_cons_zero]
      simp only [List.getElem_cons_zero] at hb0
      have : max (0 : Int) d = d := by omega
      rw [this]
  generalize mxS l = M at *
  generalize hd0 : (l[0]'hpos) = d0 at *
  have HM : Hid _ := And.intro hM (And.intro h3 h6)
  have hp1 : ¬ (((l.length : Nat) : Int) < 1) := by omega
  clear hM h3 h6 hd0
  go_enter Tryz.func96, Tryz.ntmps96
  go_wp2_with fail
  go_loopg [3, 4] (l.length - 1) (fun m v3 v4 wr => ∃ (i : Nat) (x : Int), v3 = .int .u8 x ∧ v4 = .int .i64 i ∧ i + m = l.length ∧ wr = w ∧ 0 ≤ x ∧ x < 256 ∧ Hid (M = (l.drop i).foldl max x))
  case atStart => exact ⟨1, d0, rfl, rfl, by omega, rfl, hb0.1, hb0.2, HM.out.1⟩
  case round =>
    obtain ⟨i, x, rfl, rfl, him, hwr, hx0, hx1, hf⟩ := hrel
    subst hwr
    by_cases hi : i < l.length
    · obtain ⟨m, rfl⟩ : ∃ m, gk = m + 1 := ⟨gk - 1, by omega⟩
      have y0 := HM.out.2.2 i hi
      have hbd := HM.out.2.1 _ (List.getElem_mem hi)
      have hfd : (l.drop i).foldl max x = (l.drop (i + 1)).foldl max (max x (l[i]'hi)) := by rw [List.drop_eq_getElem_cons hi, List.foldl_cons]
      generalize (l[i]'hi) = d at *
      have hmd : (d ≤ x ∧ max x d = x) ∨ (x < d ∧ max x d = d) := by omega
      rcases hmd with ⟨q1, q2⟩ | ⟨q1, q2⟩
      all_goals
        rw [q2] at hfd
        have HF : Hid _ := And.intro hf hfd
        clear hf hfd q2
        go_wp2_with fail
        go_roundg m
        case measure => omega
        case rel => exact ⟨i + 1, _, rfl, by simp, by omega, rfl, by omega, by omega, by show _ = _; rw [HF.out.1.out, HF.out.2]⟩
    · have hil : i = l.length := by omega
      have hM2 : M = x := by rw [hf.out, hil, List.drop_length]; rfl
      have HF : Hid _ := hM2
      clear hf hM2
      go_wp2_with fail
      go_ret
      exact ⟨by rw [HF.out]; rfl, Below.refl _ _⟩
theorem eq_sn (w : World) (ad : Addr) (n c : Nat) : (binOp BinOp.eql 32 (.slice (some ad) n c) (.slice none 0 0)).run Tryz.prog w = .ok (.bool false) w := by kernel_rfl
set_option maxRecDepth 100000 in
set_option maxHeartbeats 1600000 in
theorem clone_p {w : World} {v : Value} {l : List Int} (h : BtR w v l) (hn : l ≠ []) (hl : l.length ≤ 20000) : Calls Tryz.prog 149 #[v] w fun e w' => ∃ a c, e = .returned (.slice a l.length c) ∧ BtR w' (.slice a l.length c) l ∧ (∀ k, (Value.slice a l.length c).ownBlock = some k → w.heap.size ≤ k ∧ k < w'.heap.size) ∧ Below w.heap.size w w' := by
  obtain ⟨i5, z5, hi5, hz0, hzc, hz1, hz3⟩ := info5p
  obtain ⟨a, cap, rfl, hc1, hc2⟩ := h.form
  unfold maxLen at hc2
  obtain ⟨g, o, rfl, hg, _⟩ := h.cell hn
  have HH : Hid _ := And.intro h h
  have hq := eq_sn w ⟨g, o, none⟩ l.length cap
  clear h
  go_enter Tryz.func149, Tryz.ntmps149
  go_wp2_with (first | (at_builtin; refine wpList_app _ rfl (.tmp 5) (.tmp 6) 32 rfl w.heap.size 5 i5 z5 1 1 Tryz.underlying32 hi5 hz0 hz1 hz3 hzc (by decide) (.slice (some ⟨w.heap.size, 0, none⟩) 0 0) 0 [] rfl (emp w 5) (some ⟨g, o, none⟩) l.length cap (l.map (Value.int .u8)) rfl (by simp) (src_below HH.out.1.src ((Below.refl _ _).alloc (Nat.le_refl _) _)) (one8 l) (by unfold maxLen; omega) (by omega) (by simp) ?_; intro v5 w5 hown5 hg5 hat5; obtain ⟨a5, c5, rfl⟩ := row_form hown5; have hb5 : Below w.heap.size w w5 := ((Below.refl w.heap.size w).alloc (Nat.le_refl _) _).grown hg5 (by simp) (fun b hb => by simp [Value.ownBlock] at hb; omega); have H5 : Hid _ := And.intro hown5 hb5; clear hown5 hg5 hat5 hb5))
  have hown5 : w5.ownsRow w.heap.size 5 1 (.slice a5 l.length c5) l.length (l.map (Value.int .u8)) := by simpa only [Nat.zero_add, List.nil_append] using H5.out.1
  have hbt5 : BtR w5 (.slice a5 l.length c5) l := btr_own hown5 rfl HH.out.1.byte
  have HF : Hid _ := And.intro hbt5 (fun k hk => row_base hown5 k hk)
  clear hown5 hbt5
  go_ret
  exact ⟨a5, c5, by simp, HF.out.1, HF.out.2, H5.out.2⟩
end Go.Proofs.YtgaegajcejpmdaaGreatDoor.Dc
namespace Go.Proofs.YtgaegajcejpmdaaGreatDoor.Dc
open Go.RowKit
set_option linter.unusedVariables false

abbrev zP : Obj := .cells #[.bool false, .slice none 0 0, .int .i64 0] 34
set_option maxRecDepth 100000 in
set_option maxHeartbeats 6400000 in
theorem canon_p {w : World} {v : Value} {l : List Int} (h : BtR w v l) (hdg : Dg l) (neg : Bool) (s : Nat) (hs : s + 1 ≤ l.length) (hl : l.length ≤ 20000) : Calls Tryz.prog 107 #[.bool neg, v, .int .i64 s] w fun e w' => ∃ rv, e = .returned (nmV (canS neg l s).1 rv (canS neg l s).2.2) ∧ BtR w' rv (canS neg l s).2.1 ∧ (∀ k, rv.ownBlock = some k → w.heap.size < k) ∧ Below w.heap.size w w' := by
  obtain ⟨va, vc, rfl, _, _⟩ := h.form
  have hc := can_pr neg hdg hs
  generalize canS neg l s = C at *
  have hb0 : Below w.heap.size w (w.alloc zP) := (Below.refl _ _).alloc (Nat.le_refl _) _
  have HH : Hid _ := And.intro h (And.intro hc hb0)
  clear h hc hb0 hdg
  go_enter Tryz.func107, Tryz.ntmps107
  go_wp2_with fail
  go_loopg [1, 2] s (fun m v1 v2 wr => ∃ (l1 : List Int) (a : Option Addr) (c : Nat), v1 = .slice a l1.length c ∧ v2 = .int .i64 m ∧ wr = w.alloc zP ∧ BtR w (.slice a l1.length c) l1 ∧ m + 1 ≤ l1.length ∧ l1.length ≤ 20000 ∧ Hid (cT s l = cT m l1))
  case atStart => exact ⟨l, va, vc, rfl, rfl, rfl, HH.out.1, hs, hl, rfl⟩
  case round =>
    obtain ⟨l1, a, c, rfl, rfl, hwr, hb1, hm1, hl1, hct⟩ := hrel
    have HW : Hid _ := hwr
    have hwb : Below w.heap.size w wr := by rw [hwr]; exact HH.out.2.2
    clear hwr
    obtain ⟨_, hcl, hcm⟩ := hb1.lim
    unfold maxLen at hcm
    have HB : Hid _ := And.intro hb1 (And.intro hct hwb)
    clear hb1 hct hwb
    by_cases hgo : ∃ (k : Nat) (m : List Int), gk = k + 1 ∧ l1 = m ++ [0]
    · obtain ⟨k, m, rfl, rfl⟩ := hgo
      obtain ⟨g, o, rfl, hg, hcell⟩ := HB.out.1.cell (by simp)
      have x0 := (HB.out.2.2.cell (p := ⟨g, o + m.length, none⟩) hg).trans (hcell m.length (by simp))
      simp only [List.getElem_concat_length] at x0
      simp only [List.length_append, List.length_cons, List.length_nil, Nat.zero_add] at *
      have e1 : ((m.length + 1 : Nat) : Int) - 1 = m.length := by omega
      have hbi := HB.out.1
      have HB2 : Hid _ := hbi.init
      clear hcell hbi
      go_wp2_with fail
      go_roundg k
      case measure => omega
      case rel => exact ⟨m, _, c, by simp, by simp, HW.out, HB2.out, by omega, by omega, by show _ = _; rw [HB.out.2.1.out, cT_last rfl, if_pos rfl]⟩
    · obtain ⟨t, ht⟩ : ∃ t, t = gk := ⟨_, rfl⟩
      subst ht
      have hcase : ((¬ (0 : Int) < (t : Int)) ∧ cT t l1 = (l1, t)) ∨ ((0 : Int) < (t : Int) ∧ cT t l1 = (l1, t) ∧ ∃ m d, l1 = m ++ [d] ∧ d ≠ 0) := by
        rcases t with _ | k
        · exact .inl ⟨by omega, rfl⟩
        · obtain ⟨m, d, hm, _, _⟩ := last_mod (l := l1) (fun e => by rw [e] at hm1; simp at hm1)
          have hd : d ≠ 0 := fun e => hgo ⟨k, m, rfl, by rw [hm, e]⟩
          exact .inr ⟨by omega, by rw [cT_last hm, if_neg hd], m, d, hm, hd⟩
      clear hgo
      obtain ⟨wo, hwo⟩ : ∃ wo, wo = wr := ⟨_, rfl⟩
      subst hwo
      rcases hcase with ⟨hgp, hex⟩ | ⟨hgp, hex, m, d, hlm, hd0⟩
      case' inl =>
        have HX : Hid _ := hex
        clear hex
        go_wp2_with fail
      case' inr =>
        have HX : Hid _ := hex
        clear hex
        obtain ⟨g, o, rfl, hg, hcell⟩ := HB.out.1.cell (by rw [hlm]; simp)
        have hl2 : l1.length = m.length + 1 := by rw [hlm]; simp
        have x0 := (HB.out.2.2.cell (p := ⟨g, o + m.length, none⟩) hg).trans (hcell m.length (by omega))
        have hd1 : l1[m.length]'(by omega) = d := by
          subst hlm
          simp
        rw [hd1] at x0
        have hbd := HB.out.1.byte d (by rw [hlm]; simp)
        have e1 : ((l1.length : Nat) : Int) - 1 = m.length := by omega
        have hdz : (d == 0) = false := by simpa using hd0
        have hml : m.length < l1.length := by omega
        have HM : Hid _ := hlm
        clear hlm hl2 hcell hd1
        go_wp2_with fail
      all_goals
        go_loopg [1] l1.length (fun m2 v1 wr => ∃ (l2 : List Int) (a2 : Option Addr) (c2 : Nat), v1 = .slice a2 l2.length c2 ∧ Hid (l2.length = m2) ∧ wr = wo ∧ BtR w (.slice a2 l2.length c2) l2 ∧ Hid (cH t l1 = cH t l2) ∧ t + 1 ≤ l2.length ∧ l2.length ≤ 20000)
        case atStart => exact ⟨l1, _, c, rfl, rfl, rfl, HB.out.1, rfl, hm1, hl1⟩
        case round =>
          obtain ⟨l2, a2, c2, rfl, hg2, hwr2, hbt2, hh2, ht2, hl2⟩ := hrel
          subst hwr2
          obtain ⟨_, hcl2, hcm2⟩ := hbt2.lim
          unfold maxLen at hcm2
          have HB2 : Hid _ := And.intro hbt2 (And.intro hh2 hg2)
          clear hbt2 hh2 hg2
          by_cases hgo2 : ∃ r, l2 = 0 :: r ∧ t < r.length
          · obtain ⟨r, rfl, htr⟩ := hgo2
            obtain ⟨g2, o2, rfl, hg2, hcell2⟩ := HB2.out.1.cell (by simp)
            have y0 := (HB.out.2.2.cell (p := ⟨g2, o2, none⟩) hg2).trans (hcell2 0 (by simp))
            simp only [List.getElem_cons_zero] at y0
            have hgk := HB2.out.2.2.out
            simp only [List.length_cons] at *
            obtain ⟨k, rfl⟩ : ∃ k, gk = k + 1 := ⟨gk - 1, by omega⟩
            have hc2 : (t : Int) + 1 < ((r.length + 1 : Nat) : Int) := by omega
            have HR : Hid _ := And.intro HB2.out.1.rest hgk
            clear hcell2 hgk
            go_wp2_with fail
            go_roundg k
            case measure => omega
            case rel => exact ⟨r, _, _, by simp, by have := HR.out.2; show _ = _; omega, rfl, HR.out.1, by show _ = _; rw [HB2.out.2.1.out, cH, if_pos ⟨rfl, htr⟩], by omega, by omega⟩
          · have hcase2 : ((¬ (t : Int) + 1 < (l2.length : Int)) ∧ cH t l2 = l2) ∨ ((t : Int) + 1 < (l2.length : Int) ∧ cH t l2 = l2 ∧ ∃ d r, l2 = d :: r ∧ d ≠ 0) := by
              cases l2 with
              | nil => exact .inl ⟨by simp; omega, rfl⟩
              | cons d r =>
                by_cases hd : d = 0
                · refine .inl ⟨fun q => hgo2 ⟨r, by rw [hd], by simp only [List.length_cons] at q; omega⟩, ?_⟩
                  rw [cH, if_neg (fun q => hgo2 ⟨r, by rw [hd], q.2⟩)]
                · by_cases hq : (t : Int) + 1 < (((d :: r).length : Nat) : Int)
                  · exact .inr ⟨hq, by rw [cH, if_neg (fun q => hd q.1)], d, r, rfl, hd⟩
                  · exact .inl ⟨hq, by rw [cH, if_neg (fun q => hd q.1)]⟩
            clear hgo2
            have hl2n : l2 ≠ [] := fun e => by rw [e] at ht2; simp at ht2
            obtain ⟨wo, hwo⟩ : ∃ wo, wo = wr := ⟨_, rfl⟩
            subst hwo
            have hcl := clone_p (HB2.out.1.below HB.out.2.2) hl2n hl2
            have HCL : Hid _ := And.intro hcl trivial
            clear hcl
            rcases hcase2 with ⟨hgq, hex⟩ | ⟨hgq, hex, d2, r2, hlm2, hd2⟩
            case' inl =>
              have HX2 : Hid _ := hex
              clear hex
              go_wp2_with fail
            case' inr =>
              have HX2 : Hid _ := hex
              clear hex
              obtain ⟨g2, o2, rfl, hg2, hcell2⟩ := HB2.out.1.cell (by rw [hlm2]; simp)
              have hlp2 : 0 < l2.length := by rw [hlm2]; simp
              have y0 := (HB.out.2.2.cell (p := ⟨g2, o2, none⟩) hg2).trans (hcell2 0 hlp2)
              have hd3 : l2[0]'hlp2 = d2 := by subst hlm2; rfl
              rw [hd3] at y0
              have hbd2 := HB2.out.1.byte d2 (by rw [hlm2]; simp)
              have hdz2 : (d2 == 0) = false := by simpa using hd2
              have HM2 : Hid _ := hlm2
              clear hlm2 hcell2 hd3
              go_wp2_with fail
            all_goals
              refine Calls.mono HCL.out.1 ?_
              rintro e w5 ⟨a5, c5, rfl, hbt5, hbl5, hb5⟩
              have hbA : Below w5.heap.size w5 (w5.alloc (.cells #[.bool false, .slice a5 l2.length c5, .int .i64 t] 34)) := (Below.refl _ _).alloc (Nat.le_refl _) _
              have hT7 := nw_heap w5 (.cells #[.bool false, .slice a5 l2.length c5, .int .i64 t] 34)
              have hR0 : w.heap.size < wo.heap.size := by rw [HW.out]; simp
              have hRo : wo.heap[w.heap.size]? = some (.cells #[.bool false, .slice none 0 0, .int .i64 0] 34 (0, 0)) := by rw [HW.out]; exact nw_heap _ _
              have hsz5 := hb5.size
              have hR5 := (hb5.block _ hR0).trans hRo
              have hRA := (hbA.block _ (lt_of hR5)).trans hR5
              have hbw5 := HB.out.2.2.trans (hb5.mono HB.out.2.2.size)
              have hbwA := hbw5.trans (hbA.mono hbw5.size)
              have hzr := nought_p (hbt5.below hbA) false t
              have hCC : C = (neg && !(noS l2), l2, t) := by
                have e := HH.out.2.1
                rw [HB.out.2.1.out, HX.out] at e
                dsimp only at e
                rw [HB2.out.2.1.out, HX2.out] at e
                exact e
              subst hCC
              obtain ⟨az, haz⟩ : ∃ az, noS l2 = az := ⟨_, rfl⟩
              rw [haz] at hzr
              have HAZ : Hid _ := haz
              clear haz
              have H6 : Hid _ := And.intro hbt5 (And.intro hbl5 (And.intro hbA (And.intro hT7 (And.intro (And.intro hR5 hRA) (And.intro (And.intro hbw5 hbwA) hzr)))))
              clear hbt5 hbl5 hbA hT7 hRo hR5 hRA hbw5 hbwA hzr hb5
              have hne6 : w.heap.size ≠ w5.heap.size := by omega
              have hlt6 : w.heap.size < w5.heap.size := by omega
              cases neg
              case' false =>
                obtain ⟨r0, r1, r2⟩ := bl3 H6.out.2.2.2.2.1.1
                obtain ⟨rf0, rf1, rf2⟩ := bl3f H6.out.2.2.2.2.1.1
                go_wp2_with fail
                obtain ⟨q1, q2, q3, q4⟩ := set3 H6.out.2.2.2.2.2.1.1 (Nat.le_refl _) H6.out.2.2.2.2.1.1 (.bool false) (.slice a5 l2.length c5) (.int .i64 t)
                have hbt9 := H6.out.1.kept (Nat.le_of_eq q4.symm) q3 (fun k hk hn e => by have := (H6.out.2.1 k hk).1; omega)
                generalize (((w5.setCell ⟨w.heap.size, 0, none⟩ (.bool false)).setCell ⟨w.heap.size, 1, none⟩ (.slice a5 l2.length c5)).setCell ⟨w.heap.size, 2, none⟩ (.int .i64 t)) = W9 at *
                have hbX : Below W9.heap.size W9 (W9.alloc (.cells #[.bool false, .slice a5 l2.length c5, .int .i64 t] 34)) := (Below.refl _ _).alloc (Nat.le_refl _) _
                obtain ⟨y0, y1, y2⟩ := bl3 ((hbX.block _ (lt_of q1)).trans q1)
                have hbt10 := hbt9.below hbX
                have hb10 := q2.trans (hbX.mono q2.size)
                generalize (W9.alloc (.cells #[.bool false, .slice a5 l2.length c5, .int .i64 t] 34)) = W10 at *
                exact bodyPost_ret (v := nmV false (.slice a5 l2.length c5) t) (by simp [results, Tryz.results107, go_sem, y0, y1, y2]) rfl ⟨.slice a5 l2.length c5, rfl, hbt10, fun k hk => by have := (H6.out.2.1 k hk).1; omega, hb10⟩
              case' true =>
                go_wp2_with fail
                refine Calls.mono H6.out.2.2.2.2.2.2 ?_
                rintro e w6 ⟨rfl, hb6⟩
                have hsz6 := hb6.size
                simp only [sza] at hsz6
                have hT6 := (hb6.block _ (lt_of H6.out.2.2.2.1)).trans H6.out.2.2.2.1
                have hR6 := (hb6.block _ (lt_of H6.out.2.2.2.2.1.2)).trans H6.out.2.2.2.2.1.2
                have hbw6 := H6.out.2.2.2.2.2.1.2.trans (hb6.mono H6.out.2.2.2.2.2.1.2.size)
                have hbt6 := (H6.out.1.below H6.out.2.2.1).below hb6
                obtain ⟨k0, k1, k2⟩ := bl3 hT6
                obtain ⟨kf0, _, _⟩ := bl3f hT6
                obtain ⟨r0, r1, r2⟩ := bl3 hR6
                obtain ⟨rf0, rf1, rf2⟩ := bl3f hR6
                have H7 : Hid _ := And.intro hT6 (And.intro hR6 (And.intro hbw6 (And.intro hbt6 H6.out.2.1)))
                clear hT6 hR6 hbw6 hbt6 hb6 H6
                obtain ⟨g8, t8⟩ := setC (i := 0) (.bool (!az)) H7.out.1
                have hR8 := grown_at g8 H7.out.2.1 (fun e => hne6 e.symm)
                have hb8 : Below w.heap.size w (w6.setCell ⟨w5.heap.size, 0, none⟩ (.bool (!az))) := H7.out.2.2.1.setCell (p := ⟨w5.heap.size, 0, none⟩) (by show w.heap.size ≤ w5.heap.size; omega) _
                have hbt8 : BtR (w6.setCell ⟨w5.heap.size, 0, none⟩ (.bool (!az))) (.slice a5 l2.length c5) l2 := by
                  refine H7.out.2.2.2.1.kept (X := w5.heap.size) (by simp [World.setCell]) (fun k hk => Below.heap_setCell _ _ _ _ hk) (fun k hk hn e => ?_)
                  have := (H7.out.2.2.2.2 k hk).2
                  omega
                have H8 : Hid _ := And.intro hR8 (And.intro hb8 hbt8)
                clear g8 t8 hR8 hb8 hbt8
                go_wp2_with fail
                obtain ⟨q1, q2, q3, q4⟩ := set3 H8.out.2.1 (Nat.le_refl _) H8.out.1 (.bool (!az)) (.slice a5 l2.length c5) (.int .i64 t)
                have hbt9 := H8.out.2.2.kept (Nat.le_of_eq q4.symm) q3 (fun k hk hn e => by have := (H7.out.2.2.2.2 k hk).1; omega)
                generalize ((((w6.setCell ⟨w5.heap.size, 0, none⟩ (.bool (!az))).setCell ⟨w.heap.size, 0, none⟩ (.bool (!az))).setCell ⟨w.heap.size, 1, none⟩ (.slice a5 l2.length c5)).setCell ⟨w.heap.size, 2, none⟩ (.int .i64 t)) = W9 at *
                obtain ⟨y0, y1, y2⟩ := bl3 q1
                exact bodyPost_ret (v := nmV (!az) (.slice a5 l2.length c5) t) (by simp [results, Tryz.results107, go_sem, y0, y1, y2]) rfl ⟨.slice a5 l2.length c5, by rw [HAZ.out], hbt9, fun k hk => by have := (H7.out.2.2.2.2 k hk).1; omega, q2⟩
end Go.Proofs.YtgaegajcejpmdaaGreatDoor.Dc
