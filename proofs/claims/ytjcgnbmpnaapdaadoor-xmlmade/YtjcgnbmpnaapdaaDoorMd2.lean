/- The walk of XmlMade. -/
import Derived.Test.YtjcgnbmpnaapdaaDoorMd1
import Derived.Test.YtjcgnbmpnaapdaaDoorFr3
namespace Go.Proofs.YtjcgnbmpnaapdaaDoor
open Go.RowKit
set_option linter.unusedVariables false

set_option maxRecDepth 100000 in
theorem nmf_s (c : Int) (w : World) (h0 : 0 ≤ c) (h1 : c < 256) : Calls Tryd.prog 16 #[.int .u8 c] w fun e w' => e = .returned (.string (sb (M.nmOf c))) ∧ Below w.heap.size w w' := by
  have hm0 : 0 ≤ c % 26 := Int.emod_nonneg c (by omega)
  have hm1 : c % 26 < 26 := Int.emod_lt_of_pos c (by omega)
  have hcv : (convert 25 9 (.slice (some ⟨w.heap.size, 0, none⟩) 1 1)).run Tryd.prog (w.alloc (.cells #[.int .u8 (97 + c % 26)] 5)) = .ok (.string (sb [97 + c % 26])) (w.alloc (.cells #[.int .u8 (97 + c % 26)] 5)) := conv_string w.heap.size 0 1 [97 + c % 26] (w.alloc (.cells #[.int .u8 (97 + c % 26)] 5)) (by
    intro i hi
    have : i = 0 := by simp at hi; omega
    subst this
    exact Bk.cell (i := 0) (heap_alloc_new w (.cells #[.int .u8 (97 + c % 26)] 5)))
  have htm : c.tmod 26 = c % 26 := Int.tmod_eq_emod_of_nonneg h0
  go_enter Tryd.func16, Tryd.ntmps16
  have hsz : (sb [97 + c % 26]).size = 1 := sb_size _
  go_wp2_with fail
  go_ret
  refine ⟨?_, (Below.refl _ _).alloc (Nat.le_refl _) _⟩
  show Ending.returned (.string (sb [110] ++ sb [97 + c % 26])) = _
  rw [sb_append]
  rfl
/-- A row of strings that came in. -/
structure SI (w : World) (v : Value) (ss : List ByteArray) : Prop where
  f : ∃ a c, v = .slice a ss.length c ∧ ∀ j s, ss[j]? = some s → ∃ A, a = some A ∧ w.cell? (A.add j) = some (.string s)
  mx : ss.length ≤ maxLen
theorem BI.at' {w : World} {vb : Value} {l : Bs} (h : BI w vb l) : ∃ a c, vb = .slice a l.length c ∧ ∀ j x, l[j]? = some x → ∃ A, a = some A ∧ w.cell? (A.add j) = some (.int .u8 x) ∧ 0 ≤ x ∧ x < 256 := by
  rcases h.fm with ⟨rfl, rfl⟩ | ⟨A, c, rfl, hc⟩
  · exact ⟨none, 0, rfl, fun j x hx => by simp at hx⟩
  · refine ⟨_, c, rfl, fun j x hx => ⟨A, rfl, hc j _ (by rw [List.getElem?_map, hx]; rfl), ?_⟩⟩
    have := h.bd j
    rw [List.getD_eq_getElem?_getD, hx] at this
    exact this
set_option maxRecDepth 100000 in
theorem made_no {w : World} {an av at_ : Option Addr} {n m k cn cv ct : Nat} (hT : Tab w) (hn : n ≤ maxLen) (hm : m ≤ maxLen) (hk : k ≤ maxLen) (h : 30 < n ∨ m < n ∨ k < n) :
    Calls Tryd.prog 7 #[.slice an n cn, .slice av m cv, .slice at_ k ct] w fun e w' => e = .returned (.bool true) ∧ Below w.heap.size w w' := by
  have HT : Hid _ := hT
  clear hT
  unfold maxLen at hn hm hk
  go_enter Tryd.func7, Tryd.ntmps7
  go_wp2_with fail
  refine (known_s HT.out).mono ?_
  rintro e w2 ⟨rfl, hb2⟩
  have HB2 : Hid _ := hb2
  clear hb2
  by_cases h1 : 30 < n
  · go_wp2_with fail
    all_goals
      go_ret
      exact ⟨rfl, HB2.out⟩
  by_cases h2 : m < n
  · go_wp2_with fail
    all_goals
      go_ret
      exact ⟨rfl, HB2.out⟩
  · have h3 : k < n := by omega
    go_wp2_with fail
    all_goals
      go_ret
      exact ⟨rfl, HB2.out⟩
theorem add_let (a b : ByteArray) (n : Nat) (h : a.size + b.size ≤ n) (hn : n ≤ 1000000) : ∃ T : ByteArray, T = a ++ b ∧ T.size ≤ n ∧ ∀ W : World, (binOp .add 9 (.string a) (.string b)).run Tryd.prog W = .ok (.string T) W := by
  refine ⟨_, rfl, by simpa using h, fun W => ?_⟩
  have hk : a.size + b.size ≤ 9223372036854775807 := by omega
  simp [binOp, go_sem, hk]
/-- What an element's texts are bound to. -/
def OkAt (vs ts : List ByteArray) (i : Nat) : Prop := (vs.getD i ⟨#[]⟩).size ≤ 100 ∧ (ts.getD i ⟨#[]⟩).size ≤ 100 ∧ ts.getD i ⟨#[]⟩ ≠ ⟨#[]⟩
theorem sk_keep {w W W' : World} {a b : Addr} {x y : Value} (h : W.cell? a = some x ∧ W.cell? b = some y ∧ Hid (Below w.heap.size w W)) (hb : Below W.heap.size W W') : W'.cell? a = some x ∧ W'.cell? b = some y ∧ Hid (Below w.heap.size w W') :=
  ⟨blk_cell hb h.1, blk_cell hb h.2.1, h.2.2.out.trans (hb.mono h.2.2.out.size)⟩
theorem keep11 {w W W' : World} {a0 a1 a2 a3 a4 a5 a6 a7 a8 a9 a10 : Addr} {v0 v1 v2 v3 v4 v5 v6 v7 v8 v9 v10 : Value} (h : W.cell? a0 = some v0 ∧ W.cell? a1 = some v1 ∧ W.cell? a2 = some v2 ∧ W.cell? a3 = some v3 ∧ W.cell? a4 = some v4 ∧ W.cell? a5 = some v5 ∧ W.cell? a6 = some v6 ∧ W.cell? a7 = some v7 ∧ W.cell? a8 = some v8 ∧ W.cell? a9 = some v9 ∧ W.cell? a10 = some v10 ∧ Hid (Below w.heap.size w W)) (hb : Below W.heap.size W W') : W'.cell? a0 = some v0 ∧ W'.cell? a1 = some v1 ∧ W'.cell? a2 = some v2 ∧ W'.cell? a3 = some v3 ∧ W'.cell? a4 = some v4 ∧ W'.cell? a5 = some v5 ∧ W'.cell? a6 = some v6 ∧ W'.cell? a7 = some v7 ∧ W'.cell? a8 = some v8 ∧ W'.cell? a9 = some v9 ∧ W'.cell? a10 = some v10 ∧ Hid (Below w.heap.size w W') :=
  ⟨blk_cell hb h.1, blk_cell hb h.2.1, blk_cell hb h.2.2.1, blk_cell hb h.2.2.2.1, blk_cell hb h.2.2.2.2.1, blk_cell hb h.2.2.2.2.2.1, blk_cell hb h.2.2.2.2.2.2.1, blk_cell hb h.2.2.2.2.2.2.2.1, blk_cell hb h.2.2.2.2.2.2.2.2.1, blk_cell hb h.2.2.2.2.2.2.2.2.2.1, blk_cell hb h.2.2.2.2.2.2.2.2.2.2.1, h.2.2.2.2.2.2.2.2.2.2.2.out.trans (hb.mono h.2.2.2.2.2.2.2.2.2.2.2.out.size)⟩
theorem alloc3 (w : World) (a b c : Array Value) (t : TypeId) : (((w.alloc (.cells a t)).alloc (.cells b t)).alloc (.cells c t)).heap[w.heap.size]? = some (.cells a t (0, 0)) ∧ (((w.alloc (.cells a t)).alloc (.cells b t)).alloc (.cells c t)).heap[w.heap.size + 1]? = some (.cells b t (0, 0)) ∧ (((w.alloc (.cells a t)).alloc (.cells b t)).alloc (.cells c t)).heap[w.heap.size + 1 + 1]? = some (.cells c t (0, 0)) ∧ Below w.heap.size w (((w.alloc (.cells a t)).alloc (.cells b t)).alloc (.cells c t)) := by
  have h1 := heap_alloc_new w (.cells a t)
  have h2 := heap_alloc_new (w.alloc (.cells a t)) (.cells b t)
  have h3 := heap_alloc_new ((w.alloc (.cells a t)).alloc (.cells b t)) (.cells c t)
  have z1 : (w.alloc (.cells a t)).heap.size = w.heap.size + 1 := by simp
  have z2 : ((w.alloc (.cells a t)).alloc (.cells b t)).heap.size = w.heap.size + 1 + 1 := by simp
  rw [z1] at h2
  rw [z2] at h3
  refine ⟨?_, ?_, h3, (((Below.refl _ _).alloc (Nat.le_refl _) _).alloc (by simp) _).alloc (by simp; omega) _⟩
  · rw [Below.heap_alloc _ _ _ (by simp; omega), Below.heap_alloc _ _ _ (by simp)]; exact h1
  · rw [Below.heap_alloc _ _ _ (by simp)]; exact h2
set_option maxRecDepth 100000 in
set_option maxHeartbeats 12800000 in
theorem made_walk {w : World} {vn vv vt : Value} {l : Bs} {vs ts : List ByteArray} (hN : BI w vn l) (hV : SI w vv vs) (hX : SI w vt ts) (hT : Tab w) (h30 : l.length ≤ 30) (hvl : l.length ≤ vs.length) (htl : l.length ≤ ts.length) :
    Calls Tryd.prog 7 #[vn, vv, vt] w fun e w' => e = .returned (.bool true) ∧ Below w.heap.size w w' := by
  have h0 : 0 < w.heap.size := World.block_lt_of_cell? w _ hT.a
  obtain ⟨an, cn, rfl, hn⟩ := hN.at'
  obtain ⟨av, cv, rfl, hv⟩ := hV.f
  obtain ⟨at_, ct, rfl, hx⟩ := hX.f
  have hvm := hV.mx
  have htm := hX.mx
  unfold maxLen at hvm htm
  have HC : Hid _ := And.intro hn (And.intro hv hx)
  have HT : Hid _ := hT
  clear hT hn hv hx hN hV hX
  have hq1 : decide (30 < (l.length : Int)) = false := by simp; omega
  have hq2 : decide ((vs.length : Int) < (l.length : Int)) = false := by simp; omega
  have hq3 : decide ((ts.length : Int) < (l.length : Int)) = false := by simp; omega
  have hq4 : decide (vs.length < l.length) = false := by simp; omega
  have hq5 : decide (ts.length < l.length) = false := by simp; omega
  go_enter Tryd.func7, Tryd.ntmps7
  go_wp2_with fail
  refine (known_s HT.out).mono ?_
  rintro e w2 ⟨rfl, hb2⟩
  have HB2 : Hid _ := hb2
  clear hb2
  go_wp2_with fail
  go_loopg [7, 8] l.length (fun m v7 v8 wr => ∃ i : Nat, v7 = .string (sb (txt l vs ts i)) ∧ v8 = .int .i64 i ∧ i + m = l.length ∧ Below w.heap.size w wr ∧ Hid (∀ j, j < i → OkAt vs ts j))
  case atStart => exact ⟨0, rfl, rfl, by omega, HB2.out, fun j hj => by omega⟩
  case round =>
    obtain ⟨i, rfl, rfl, him, hbr, hok⟩ := hrel
    have hzr := hbr.size
    have HBr : Hid _ := hbr
    by_cases hi : i < l.length
    · obtain ⟨m, rfl⟩ : ∃ m, gk = m + 1 := ⟨gk - 1, by omega⟩
      obtain ⟨c, hc⟩ : ∃ c, l[i]? = some c := ⟨_, List.getElem?_eq_getElem hi⟩
      obtain ⟨v, hv⟩ : ∃ v, vs[i]? = some v := ⟨_, List.getElem?_eq_getElem (by omega)⟩
      obtain ⟨x, hx⟩ : ∃ x, ts[i]? = some x := ⟨_, List.getElem?_eq_getElem (by omega)⟩
      obtain ⟨An, rfl, x0, hc0, hc1⟩ := HC.out.1 i c hc
      obtain ⟨Av, rfl, x1⟩ := HC.out.2.1 i v hv
      obtain ⟨At, rfl, x2⟩ := HC.out.2.2 i x hx
      have y0 := blk_cell hbr x0
      have y1 := blk_cell hbr x1
      have y2 := blk_cell hbr x2
      have gc : l.getD i 0 = c := by rw [List.getD_eq_getElem?_getD, hc]; rfl
      have gv : vs.getD i ⟨#[]⟩ = v := by rw [List.getD_eq_getElem?_getD, hv]; rfl
      have gx : ts.getD i ⟨#[]⟩ = x := by rw [List.getD_eq_getElem?_getD, hx]; rfl
      have hstep := txt_step l vs ts i c v x gc gv gx
      have hlen : (sb (txt l vs ts i)).size ≤ 39000 := by
        rw [sb_size]
        have := txt_len l vs ts i (fun j hj => ⟨(hok.out j hj).1, (hok.out j hj).2.1⟩)
        omega
      have HST : Hid _ := And.intro hstep (And.intro gv gx)
      have hiI : (i : Int) < (l.length : Int) := by omega
      have hiV : (i : Int) < (vs.length : Int) := by omega
      have hiX : (i : Int) < (ts.length : Int) := by omega
      clear hstep hbr x0 x1 x2 hc hv hx gc gv gx
      generalize hS : sb (txt l vs ts i) = S at *
      by_cases hv1 : 100 < v.size
      · go_wp2_with fail
        all_goals
          go_ret
          exact ⟨rfl, HBr.out⟩
      by_cases hx1 : 100 < x.size
      · go_wp2_with fail
        all_goals
          go_ret
          exact ⟨rfl, HBr.out⟩
      by_cases hx2 : x.toList = []
      · go_wp2_with fail
        all_goals
          go_ret
          exact ⟨rfl, HBr.out⟩
      · have hx3 : x.toList.isEmpty = false := by simpa using hx2
        have hd1 : decide (100 < (v.size : Int)) = false := by simp; omega
        have hd2 : decide (100 < (x.size : Int)) = false := by simp; omega
        go_wp2_with (first | (go_at_call 16; refine (nmf_s c _ hc0 hc1).mono ?_; rintro e w3 ⟨rfl, hb3⟩; have z1 := blk_cell hb3 y1; have z2 := blk_cell hb3 y2; have hz3 := hb3.size; have HB3 : Hid (Below w.heap.size w w3) := HBr.out.trans (hb3.mono hzr); clear hb3))
        have hs2 : (sb (M.nmOf c)).size = 2 := sb_size _
        have hl1 : (sb (escS true (bl v))).size ≤ 600 := by rw [sb_size]; have := esc_len6 true v; omega
        have hl2 : (sb (escS false (bl x))).size ≤ 600 := by rw [sb_size]; have := esc_len6 false x; omega
        have HE1 : Hid (∀ W, Calls Tryd.prog 10 #[.string v, .bool true] W fun e w' => e = .returned (.string (sb (escS true (bl v)))) ∧ Below W.heap.size W w') := fun W => esc_s true v W (by omega)
        have HE2 : Hid (∀ W, Calls Tryd.prog 10 #[.string x, .bool false] W fun e w' => e = .returned (.string (sb (escS false (bl x)))) ∧ Below W.heap.size W w') := fun W => esc_s false x W (by omega)
        generalize sb (escS true (bl v)) = E1 at *
        generalize sb (escS false (bl x)) = E2 at *
        generalize sb (M.nmOf c) = N1 at *
        have f1 : ¬ (9223372036854775807 < S.size + 1) := by omega
        have f2 : ¬ (9223372036854775807 < S.size + 1 + N1.size) := by omega
        have f3 : ¬ (9223372036854775807 < S.size + 1 + N1.size + 4) := by omega
        have f4 : ¬ (9223372036854775807 < S.size + 1 + N1.size + 4 + E1.size) := by omega
        have f5 : ¬ (9223372036854775807 < S.size + 1 + N1.size + 4 + E1.size + 2) := by omega
        have f6 : ¬ (9223372036854775807 < S.size + 1 + N1.size + 4 + E1.size + 2 + E2.size) := by omega
        have f7 : ¬ (9223372036854775807 < S.size + 1 + N1.size + 4 + E1.size + 2 + E2.size + 2) := by omega
        have f8 : ¬ (9223372036854775807 < S.size + 1 + N1.size + 4 + E1.size + 2 + E2.size + 2 + N1.size) := by omega
        have f9 : ¬ (9223372036854775807 < S.size + 1 + N1.size + 4 + E1.size + 2 + E2.size + 2 + N1.size + 2) := by omega
        have hi0 : (0 : Int) ≤ (i : Int) := by omega
        clear y0 y1 y2 hq1 hq2 hq3 hq4 hq5 hs2 hl1 hl2 hlen
        go_region_held3 (fun W => W.cell? (Av.add i) = some (.string v) ∧ W.cell? (At.add i) = some (.string x) ∧ Hid (Below w.heap.size w W)) (first | exact ⟨z1, z2, HB3.out.drew⟩ | exact sk_keep (by assumption) (by assumption) | go_keep) (first | (go_at_call_of 10 (Value.bool true); refine Calls.mono (HE1.out _) ?_; rintro e w4 ⟨rfl, hb4⟩) | (go_at_call_of 10 (Value.bool false); refine Calls.mono (HE2.out _) ?_; rintro e w4 ⟨rfl, hb4⟩))
        all_goals
          have hS4 : w4.cell? (Av.add i) = some (Value.string v) ∧ w4.cell? (At.add i) = some (Value.string x) ∧ Hid (Below w.heap.size w w4) := by assumption
          have HS4 : Hid (Below w.heap.size w w4) := hS4.2.2
          clear hS4
          go_wp2_with fail
          go_roundg m
          case measure => omega
          case rel =>
            refine ⟨i + 1, by rw [HST.out.1], by simp, by omega, HS4.out, fun j hj => ?_⟩
            rcases Nat.lt_or_ge j i with q | q
            · exact hok.out j q
            · obtain rfl : j = i := by omega
              refine ⟨by rw [HST.out.2.1]; omega, by rw [HST.out.2.2]; omega, ?_⟩
              rw [HST.out.2.2]
              rintro rfl
              exact hx2 (by rw [Lib.toList_data])
    · have hil : i = l.length := by omega
      subst hil
      clear hbr
      have hok2 : ∀ j, j < l.length → OkAt vs ts j := hok.out
      have hdl := made_len l vs ts l.length h30 (fun j hj => ⟨(hok2 j hj).1, (hok2 j hj).2.1⟩)
      have hde := made_eq l vs ts l.length
      have hdb := made_bd l vs ts l.length
      have hlen : (sb (txt l vs ts l.length)).size ≤ 39000 := by
        rw [sb_size]
        have := txt_len l vs ts l.length (fun j hj => ⟨(hok2 j hj).1, (hok2 j hj).2.1⟩)
        omega
      have hmade := M.made_doc (L := limS 0 0 0 0) (l := prts l vs ts l.length) (by decide) (by decide) (by decide) (by decide) (by rw [prts_len]; show (l.length : Int) + 1 ≤ 4096; omega) (made_ok l vs ts l.length hok2) (by omega)
      have HM : Hid _ := hmade
      clear hmade hok2
      generalize hS : sb (txt l vs ts l.length) = S at *
      generalize hD : M.madeDoc (prts l vs ts l.length) = D at *
      obtain ⟨c9, w9, hcv9, hb9, hbi9⟩ := conv_eq _ D wr hde hdb (by unfold maxLen; omega)
      have hz9 := hb9.size
      have HB9 : Hid _ := And.intro (HBr.out.trans (hb9.mono hzr)) hbi9
      have HT9 : Hid _ := HT.out.lower HB9.out.1 h0
      clear hb9 hbi9 hde hdb
      go_wp2_with fail
      refine (all_b 0 0 0 0 0 0 HB9.out.2 HT9.out).mono ?_
      rintro e w5 ⟨B5, sv5, xs5, rfl, hB5, hr5, hc5, hb5⟩
      have hz5 := hb5.size
      have HB5 : Hid _ := HB9.out.1.trans (hb5.mono (by omega))
      have HE5 : Hid _ := EF.of hr5 hc5
      have hl5 := allB_len D (limS 0 0 0 0)
      clear hr5 hc5 hb5
      obtain ⟨a5, cap5, rfl, hn5, hm5, hg5⟩ := HE5.out.f
      unfold maxLen at hm5
      generalize allB D (limS 0 0 0 0) = X at *
      rcases HM.out with h2 | ⟨k, k', es, hme, rfl⟩
      · obtain ⟨e5, p5, c5⟩ := X
        dsimp only at *
        subst h2
        clear hg5
        go_wp2_with fail
        go_ret
        exact ⟨rfl, HB5.out⟩
      · obtain ⟨hel, hget⟩ := made_get _ _ hme
        rw [prts_len] at hel
        dsimp only at *
        have hlen5 : (⟨1, k, [114], [], []⟩ :: (es ++ [⟨2, k', [114], [], []⟩]) : List Ev).length = 2 + 3 * l.length := by simp; omega
        have hlI : ((⟨1, k, [114], [], []⟩ :: (es ++ [⟨2, k', [114], [], []⟩]) : List Ev).length : Int) = 2 + 3 * (l.length : Int) := by omega
        have hev : ∀ j p, (prts l vs ts l.length)[j]? = some p → ∃ k1 k2 k3 k4, (⟨1, k, [114], [], []⟩ :: (es ++ [⟨2, k', [114], [], []⟩]) : List Ev)[1 + 3 * j]? = some ⟨1, k1, p.1, [], [⟨[118], p.2.1, k2⟩]⟩ ∧ (⟨1, k, [114], [], []⟩ :: (es ++ [⟨2, k', [114], [], []⟩]) : List Ev)[2 + 3 * j]? = some ⟨3, k3, [], p.2.2, []⟩ ∧ (⟨1, k, [114], [], []⟩ :: (es ++ [⟨2, k', [114], [], []⟩]) : List Ev)[3 + 3 * j]? = some ⟨2, k4, p.1, [], []⟩ := by
          intro j p hp
          obtain ⟨k1, k2, k3, k4, q1, q2, q3⟩ := hget j p hp
          have l1 := (List.getElem?_eq_some_iff.1 q1).1
          have l2 := (List.getElem?_eq_some_iff.1 q2).1
          have l3 := (List.getElem?_eq_some_iff.1 q3).1
          refine ⟨k1, k2, k3, k4, ?_, ?_, ?_⟩
          · rw [show 1 + 3 * j = 3 * j + 1 by omega, List.getElem?_cons_succ, List.getElem?_append_left l1]; exact q1
          · rw [show 2 + 3 * j = (3 * j + 1) + 1 by omega, List.getElem?_cons_succ, List.getElem?_append_left l2]; exact q2
          · rw [show 3 + 3 * j = (3 * j + 2) + 1 by omega, List.getElem?_cons_succ, List.getElem?_append_left l3]; exact q3
        generalize (⟨1, k, [114], [], []⟩ :: (es ++ [⟨2, k', [114], [], []⟩]) : List Ev) = ES at *
        have HG : Hid _ := And.intro hg5 hev
        have HL5 : Hid _ := hlen5
        clear hg5 hev hget hel hme
        rw [hlen5]
        go_wp2_with fail
        go_loopg [13] l.length (fun m v13 wr' => ∃ j : Nat, v13 = .int .i64 j ∧ j + m = l.length ∧ Below w5.heap.size w5 wr')
        case atStart => exact ⟨0, rfl, by omega, Below.refl _ _⟩
        case round =>
          obtain ⟨j, rfl, hjm, hbr⟩ := hrel
          have hzj := hbr.size
          have hbw := HB5.out.trans (hbr.mono HB5.out.size)
          have HBj : Hid _ := And.intro hbr hbw
          by_cases hj : j < l.length
          · obtain ⟨m, rfl⟩ : ∃ m, gk = m + 1 := ⟨gk - 1, by omega⟩
            obtain ⟨c, hc⟩ : ∃ c, l[j]? = some c := ⟨_, List.getElem?_eq_getElem hj⟩
            obtain ⟨v, hv⟩ : ∃ v, vs[j]? = some v := ⟨_, List.getElem?_eq_getElem (by omega)⟩
            obtain ⟨x, hx⟩ : ∃ x, ts[j]? = some x := ⟨_, List.getElem?_eq_getElem (by omega)⟩
            obtain ⟨An, rfl, x0, hc0, hc1⟩ := HC.out.1 j c hc
            obtain ⟨Av, rfl, x1⟩ := HC.out.2.1 j v hv
            obtain ⟨At, rfl, x2⟩ := HC.out.2.2 j x hx
            have gc : l.getD j 0 = c := by rw [List.getD_eq_getElem?_getD, hc]; rfl
            have gv : vs.getD j ⟨#[]⟩ = v := by rw [List.getD_eq_getElem?_getD, hv]; rfl
            have gx : ts.getD j ⟨#[]⟩ = x := by rw [List.getD_eq_getElem?_getD, hx]; rfl
            obtain ⟨k1, k2, k3, k4, e1, e2, e3⟩ := HG.out.2 j _ (prts_get l vs ts l.length j hj)
            simp only [prt, gc, gv, gx] at e1 e2 e3
            have hne : ES ≠ [] := by intro q; rw [q] at hlen5; simp at hlen5; omega
            obtain ⟨g, o, rfl, hk⟩ := HG.out.1 hne
            obtain ⟨q1, av1, ha1, hac1⟩ := hk _ _ e1
            obtain ⟨q2, av2, ha2, hac2⟩ := hk _ _ e2
            obtain ⟨q3, av3, ha3, hac3⟩ := hk _ _ e3
            obtain ⟨fa2, fc2, rfl, _, _, _⟩ := hac2.f
            obtain ⟨fa3, fc3, rfl, _, _, _⟩ := hac3.f
            clear hac2 hac3
            obtain ⟨aa, gcap, rfl, hg1, hg2, hgc⟩ := hac1.f
            obtain ⟨ga, rfl, hgx⟩ := hgc (by simp)
            have hval := (hgx 0 _ rfl).2.1
            dsimp only at hval q1 q2 q3
            rw [sb_bl] at hval
            have r1 := q1.below hbr
            have r2 := q2.below hbr
            have r3 := q3.below hbr
            have s10 := r1.c0
            have s11 := r1.c1
            have s12 := r1.c2
            have s13 := r1.c3
            have s14 := blk_cell hbr ha1
            have s20 := r2.c0
            have s21 := r2.c1
            have s22 := r2.c2
            have s23 := r2.c3
            have s24 := blk_cell hbr ha2
            have s30 := r3.c0
            have s31 := r3.c1
            have s32 := r3.c2
            have s33 := r3.c3
            have s34 := blk_cell hbr ha3
            have y0 := blk_cell hbw x0
            have y1 := blk_cell hbw x1
            have y2 := blk_cell hbw x2
            have y3 := blk_cell hbr hval
            dsimp only at s10 s11 s12 s13 s14 s20 s21 s22 s23 s24 s30 s31 s32 s33 s34
            rw [sb_bl] at s23
            have n1 : ((1 + 3 * j : Nat) : Int) = 1 + 3 * (j : Int) := by omega
            have n2 : ((2 + 3 * j : Nat) : Int) = 2 + 3 * (j : Int) := by omega
            have n3 : ((3 + 3 * j : Nat) : Int) = 3 + 3 * (j : Int) := by omega
            have b1 : 1 + 3 * (j : Int) < (ES.length : Int) := by omega
            have b2 : 2 + 3 * (j : Int) < (ES.length : Int) := by omega
            have b3 : 3 + 3 * (j : Int) < (ES.length : Int) := by omega
            have d1 : (0 : Int) ≤ 1 + 3 * (j : Int) := by omega
            have d2 : (0 : Int) ≤ 2 + 3 * (j : Int) := by omega
            have d3 : (0 : Int) ≤ 3 + 3 * (j : Int) := by omega
            have hgl : g < wr.heap.size := World.block_lt_of_cell? wr _ s10
            have hgn0 : g ≠ wr.heap.size := by omega
            have hgn1 : g ≠ wr.heap.size + 1 := by omega
            have hgn2 : g ≠ wr.heap.size + 1 + 1 := by omega
            have hjI : (j : Int) < (l.length : Int) := by omega
            have hjV : (j : Int) < (vs.length : Int) := by omega
            have hjX : (j : Int) < (ts.length : Int) := by omega
            clear hk e1 e2 e3 q1 q2 q3 ha1 ha2 ha3 hac1 hgx hgc hval r1 r2 r3 x0 x1 x2 hc hv hx gc gv gx hbr hbw hne hq1 hq2 hq3 hq4 hq5
            go_wp2_with fail
            obtain ⟨hA, hB, hCc, hb3⟩ := alloc3 wr #[.int .i64 1, .int .i64 k1, .string (sb (M.nmOf c)), .string (sb []), .slice (some ⟨ga, 0, none⟩) 1 gcap] #[.int .i64 3, .int .i64 k3, .string (sb []), .string x, .slice fa2 0 fc2] #[.int .i64 2, .int .i64 k4, .string (sb (M.nmOf c)), .string (sb []), .slice fa3 0 fc3] 35
            generalize ((wr.alloc (.cells #[.int .i64 1, .int .i64 k1, .string (sb (M.nmOf c)), .string (sb []), .slice (some ⟨ga, 0, none⟩) 1 gcap] 35)).alloc (.cells #[.int .i64 3, .int .i64 k3, .string (sb []), .string x, .slice fa2 0 fc2] 35)).alloc (.cells #[.int .i64 2, .int .i64 k4, .string (sb (M.nmOf c)), .string (sb []), .slice fa3 0 fc3] 35) = W3 at *
            have HN : Hid (∀ W, Calls Tryd.prog 16 #[.int .u8 c] W fun e w' => e = .returned (.string (sb (M.nmOf c))) ∧ Below W.heap.size W w') := fun W => nmf_s c W hc0 hc1
            have u0 : W3.cell? ⟨wr.heap.size, 0, none⟩ = some (.int .i64 1) := Bk.cell (i := 0) hA
            have u1 : W3.cell? ⟨wr.heap.size + 1, 0, none⟩ = some (.int .i64 3) := Bk.cell (i := 0) hB
            have u2 : W3.cell? ⟨wr.heap.size + 1 + 1, 0, none⟩ = some (.int .i64 2) := Bk.cell (i := 0) hCc
            have u3 : W3.cell? ⟨wr.heap.size, 2, none⟩ = some (.string (sb (M.nmOf c))) := Bk.cell (i := 2) hA
            have u4 := blk_cell hb3 y0
            have u5 : W3.cell? ⟨wr.heap.size + 1 + 1, 2, none⟩ = some (.string (sb (M.nmOf c))) := Bk.cell (i := 2) hCc
            have u6' : W3.cell? ⟨wr.heap.size, 4, none⟩ = some (.slice (some ⟨ga, 0, none⟩) 1 gcap) := Bk.cell (i := 4) hA
            have u7 : W3.cell? ⟨ga, 1, none⟩ = some (.string v) := blk_cell hb3 y3
            have u8 := blk_cell hb3 y1
            have u9' : W3.cell? ⟨wr.heap.size + 1, 3, none⟩ = some (.string x) := Bk.cell (i := 3) hB
            have u10 := blk_cell hb3 y2
            have hbW : Below w.heap.size w W3 := HBj.out.2.trans (hb3.mono HBj.out.2.size)
            have HW3 : Hid _ := And.intro hbW (HBj.out.1.trans (hb3.mono hzj))
            clear hA hB hCc hb3 s10 s11 s12 s13 s14 s20 s21 s22 s23 s24 s30 s31 s32 s33 s34 y0 y1 y2 y3
            generalize sb (M.nmOf c) = N1 at *
            generalize wr.heap.size = BB at *
            go_region_held3 (fun W => W.cell? ⟨BB, 0, none⟩ = some (.int .i64 1) ∧ W.cell? ⟨BB + 1, 0, none⟩ = some (.int .i64 3) ∧ W.cell? ⟨BB + 1 + 1, 0, none⟩ = some (.int .i64 2) ∧ W.cell? ⟨BB, 2, none⟩ = some (.string N1) ∧ W.cell? (An.add j) = some (.int .u8 c) ∧ W.cell? ⟨BB + 1 + 1, 2, none⟩ = some (.string N1) ∧ W.cell? ⟨BB, 4, none⟩ = some (.slice (some ⟨ga, 0, none⟩) 1 gcap) ∧ W.cell? ⟨ga, 1, none⟩ = some (.string v) ∧ W.cell? (Av.add j) = some (.string v) ∧ W.cell? ⟨BB + 1, 3, none⟩ = some (.string x) ∧ W.cell? (At.add j) = some (.string x) ∧ Hid (Below w.heap.size w W)) (first | exact ⟨u0, u1, u2, u3, u4, u5, u6', u7, u8, u9', u10, hbW.drew⟩ | exact keep11 (by assumption) (by assumption) | go_keep) (first | (go_at_call 16; refine Calls.mono (HN.out _) ?_; rintro e w4 ⟨rfl, hb4⟩))
            all_goals
              go_wp2_with fail
              go_roundg m
              case measure => omega
              case rel => exact ⟨j + 1, by simp, by omega, HW3.out.2.drew.trans (hb4.mono HW3.out.2.size)⟩
          · clear hbr hbw
            go_wp2_with fail
            go_ret
            exact ⟨rfl, HBj.out.2⟩
end Go.Proofs.YtjcgnbmpnaapdaaDoor
