/- The walk of XmlLimits. -/
import Derived.Test.YtjcgnbmpnaapdaaDoorQ22
import Derived.Test.YtjcgnbmpnaapdaaDoorM14
import Derived.Deep.QuietTactic
import Derived.BigQuiet
namespace Go.Proofs.YtjcgnbmpnaapdaaDoor
open Go.RowKit
set_option linter.unusedVariables false

theorem EvC.get {B : Nat} {w : World} : ∀ {es : List Ev} {xs : List Value} (i : Nat) (e : Ev), EvC B w es xs → es[i]? = some e → xs[i * 5]? = some (.int .i64 e.kind) ∧ xs[i * 5 + 1]? = some (.int .i64 e.place)
  | [], xs, i, e, h, he => by simp at he
  | a :: es, xs, 0, e, h, he => by
    obtain ⟨sv, ys, rfl, _, _⟩ := h
    simp at he
    subst he
    exact ⟨rfl, rfl⟩
  | a :: es, xs, i + 1, e, h, he => by
    obtain ⟨sv, ys, rfl, _, h2⟩ := h
    have := EvC.get i e h2 (by simpa using he)
    have l5 : (evHead a sv).length = 5 := rfl
    constructor
    · rw [List.getElem?_append_right (by omega)]
      rw [← this.1]; congr 1; omega
    · rw [List.getElem?_append_right (by omega)]
      rw [← this.2]; congr 1; omega
/-- Events, as a law reads them. -/
structure ER (w : World) (sv : Value) (es : List Ev) : Prop where
  f : ∃ a cap, sv = .slice a es.length cap ∧ es.length ≤ cap ∧ cap ≤ maxLen ∧ (es ≠ [] → ∃ g off, a = some ⟨g, off, none⟩ ∧ ∀ i e, es[i]? = some e → w.cell? ⟨g, off + i * 5, none⟩ = some (.int .i64 e.kind) ∧ w.cell? ⟨g, off + i * 5 + 1, none⟩ = some (.int .i64 e.place))
theorem ER.of {B : Nat} {w : World} {sv : Value} {es : List Ev} {xs : List Value} (h : RR B w sv es.length xs) (hc : EvC B w es xs) : ER w sv es := by
  rcases h with ⟨rfl, h0, _⟩ | ⟨g, off, cap, rfl, _, _, h1, h2, h3, h4⟩
  · have : es = [] := List.eq_nil_of_length_eq_zero h0
    exact ⟨none, 0, by rw [h0], by omega, by unfold maxLen; omega, fun h => absurd this h⟩
  · refine ⟨_, cap, rfl, h1, h2, fun _ => ⟨g, off, rfl, fun i e he => ?_⟩⟩
    have hi : i < es.length := (List.getElem?_eq_some_iff.1 he).1
    have := EvC.get i e hc he
    exact ⟨(h4 (i * 5) (by omega)).trans this.1, (h4 (i * 5 + 1) (by omega)).trans this.2⟩
theorem ER.below {w w' : World} {sv : Value} {es : List Ev} (h : ER w sv es) (hb : Below w.heap.size w w') : ER w' sv es := by
  obtain ⟨a, cap, e, h1, h2, h3⟩ := h.f
  refine ⟨a, cap, e, h1, h2, fun hn => ?_⟩
  obtain ⟨g, off, ha, hc⟩ := h3 hn
  exact ⟨g, off, ha, fun i e he => ⟨blk_cell hb (hc i e he).1, blk_cell hb (hc i e he).2⟩⟩
structure SameW (w w' : World) : Prop where
  heap : w'.heap = w.heap
  os : w'.os = w.os
  tape : w'.tape = w.tape
  output : w'.output = w.output
theorem SameW.refl (w : World) : SameW w w := ⟨rfl, rfl, rfl, rfl⟩
theorem SameW.cell {w w' : World} (h : SameW w w') (a : Addr) : w'.cell? a = w.cell? a := by simp [World.cell?, h.heap]
theorem SameW.below {w w' : World} {N : Nat} (h : SameW w w') : Below N w w' := ⟨h.os, h.tape, h.output, by rw [h.heap]; exact Nat.le_refl _, fun k _ => by rw [h.heap]⟩
theorem SameW.drew {w w' : World} (h : SameW w w') : SameW w w'.drew := ⟨h.heap, h.os, h.tape, h.output⟩
def LongP (e : Ending) : Prop := ∃ b, e = .returned (.bool b)
theorem long_s {w : World} {a : Option Addr} {n c : Nat} (h : 3000 < n) : Calls Tryd.prog 13 #[.slice a n c] w fun e w' => LongP e ∧ w' = w := by
  go_enter Tryd.func13, Tryd.ntmps13
  go_wp2
  all_goals
    go_ret
    exact ⟨⟨_, rfl⟩, rfl⟩
theorem short_s {w : World} {a : Option Addr} {n c : Nat} (h : n ≤ 3000) : Calls Tryd.prog 13 #[.slice a n c] w fun e w' => e = .returned (.bool false) ∧ w' = w := by
  have e : decide (131072 < (n : Int)) = false := by rw [decide_eq_false_iff_not]; omega
  go_enter Tryd.func13, Tryd.ntmps13
  go_wp2
  go_ret
  exact ⟨rfl, rfl⟩
set_option maxHeartbeats 1600000 in
theorem limits_long {w : World} {vb : Value} {l : Bs} (d n a t p r : Int) (h : BI w vb l) (hT : Tab w) (hl : 3000 < l.length) :
    Calls Tryd.prog 6 #[vb, limV d n a t p r] w fun e w' => e = .returned (.bool true) ∧ Below w.heap.size w w' := by
  obtain ⟨sa, sc, hv⟩ : ∃ sa sc, vb = .slice sa l.length sc := by
    rcases h.fm with ⟨rfl, rfl⟩ | ⟨A, c, rfl, _⟩
    · exact ⟨none, 0, rfl⟩
    · exact ⟨_, c, rfl⟩
  subst hv
  have h0 : 0 < w.heap.size := World.block_lt_of_cell? w _ hT.a
  have hb1 : Below w.heap.size w (w.alloc (.cells #[.int .i64 d, .int .i64 n, .int .i64 a, .int .i64 t, .int .i64 p, .int .i64 r] 32)) := (Below.refl _ _).alloc (Nat.le_refl _) _
  have HT : Hid _ := And.intro (hT.lower hb1 h0) hb1
  have HB : Hid _ := h
  clear h hT hb1
  go_enter Tryd.func6, Tryd.ntmps6
  go_wp2_with fail
  refine (known_s HT.out.1).mono ?_
  rintro e w2 ⟨rfl, hb2⟩
  have HB2 : Hid _ := hb2
  clear hb2
  go_wp2_with fail
  refine (long_s (w := w2) (a := sa) (c := sc) hl).mono ?_
  rintro e w3 ⟨⟨b, rfl⟩, rfl⟩
  cases b
  all_goals
    go_wp2_with fail
    go_ret
    exact ⟨rfl, HT.out.2.trans (HB2.out.mono (by simp))⟩
set_option maxHeartbeats 3200000 in
theorem limits_short {w : World} {vb : Value} {l : Bs} (d n a t p r : Int) (h : BI w vb l) (hT : Tab w) (hl : l.length ≤ 3000) :
    Calls Tryd.prog 6 #[vb, limV d n a t p r] w fun e w' => e = .returned (.bool true) ∧ Below w.heap.size w w' := by
  obtain ⟨sa, sc, hv⟩ : ∃ sa sc, vb = .slice sa l.length sc := by
    rcases h.fm with ⟨rfl, rfl⟩ | ⟨A, c, rfl, _⟩
    · exact ⟨none, 0, rfl⟩
    · exact ⟨_, c, rfl⟩
  subst hv
  have h0 : 0 < w.heap.size := World.block_lt_of_cell? w _ hT.a
  have hb1 : Below w.heap.size w (w.alloc (.cells #[.int .i64 d, .int .i64 n, .int .i64 a, .int .i64 t, .int .i64 p, .int .i64 r] 32)) := (Below.refl _ _).alloc (Nat.le_refl _) _
  have hcl : ∀ w2, Below (w.heap.size + 1) (w.alloc (.cells #[.int .i64 d, .int .i64 n, .int .i64 a, .int .i64 t, .int .i64 p, .int .i64 r] 32)) w2 → w2.heap[w.heap.size]? = some (.cells #[.int .i64 d, .int .i64 n, .int .i64 a, .int .i64 t, .int .i64 p, .int .i64 r] 32 (0, 0)) := fun w2 hb => (hb.block _ (by omega)).trans (heap_alloc_new w _)
  have HT : Hid _ := And.intro (hT.lower hb1 h0) hb1
  have HB : Hid _ := h
  have HCL : Hid _ := hcl
  clear h hT hb1 hcl
  go_enter Tryd.func6, Tryd.ntmps6
  go_wp2_with fail
  refine (known_s HT.out.1).mono ?_
  rintro e w2 ⟨rfl, hb2⟩
  have HB2 : Hid _ := hb2
  clear hb2
  go_wp2_with fail
  refine (short_s (w := w2) (a := sa) (c := sc) hl).mono ?_
  rintro e w3 ⟨rfl, rfl⟩
  go_wp2_with fail
  have hz1 : (w.alloc (.cells #[.int .i64 d, .int .i64 n, .int .i64 a, .int .i64 t, .int .i64 p, .int .i64 r] 32)).heap.size = w.heap.size + 1 := by simp
  have hbw2 := HT.out.2.trans (HB2.out.mono (by omega))
  refine (all_b 0 0 0 0 0 0 (HB.out.below hbw2) (HT.out.1.lower HB2.out (by omega))).mono ?_
  rintro e w4 ⟨B4, sv4, xs4, rfl, hB4, hr4, hc4, hb4⟩
  have hz2 := HB2.out.size
  have hz4 := hb4.size
  have hbw4 := hbw2.trans (hb4.mono (by omega))
  have hE := HCL.out w4 ((HB2.out.mono (by omega)).trans (hb4.mono (by omega)))
  have q0 : w4.cell? ⟨w.heap.size, 0, none⟩ = some (.int .i64 d) := Bk.cell (i := 0) hE
  have q1 : w4.cell? ⟨w.heap.size, 1, none⟩ = some (.int .i64 n) := Bk.cell (i := 1) hE
  have q2 : w4.cell? ⟨w.heap.size, 2, none⟩ = some (.int .i64 a) := Bk.cell (i := 2) hE
  have q3 : w4.cell? ⟨w.heap.size, 3, none⟩ = some (.int .i64 t) := Bk.cell (i := 3) hE
  have q4 : w4.cell? ⟨w.heap.size, 4, none⟩ = some (.int .i64 p) := Bk.cell (i := 4) hE
  have q5 : w4.cell? ⟨w.heap.size, 5, none⟩ = some (.int .i64 r) := Bk.cell (i := 5) hE
  have HE4 : Hid _ := And.intro (ER.of hr4 hc4) (And.intro hbw4 (hE))
  have HT4 : Hid _ := HT.out.1.lower ((HB2.out.mono (by omega : w.heap.size + 1 ≤ _)).trans (hb4.mono (by omega))) (by omega)
  clear hr4 hc4 hb4 hbw4 hbw2 hE
  go_wp2_with fail
  refine (all_b d n a t p r (HB.out.below HE4.out.2.1) HT4.out).mono ?_
  rintro e w5 ⟨B5, sv5, xs5, rfl, hB5, hr5, hc5, hb5⟩
  have HE5 : Hid _ := And.intro (ER.of hr5 hc5) (HE4.out.1.below hb5)
  have hz5 := hb5.size
  have HF : Hid _ := HE4.out.2.1.trans (hb5.mono (by omega))
  clear hr5 hc5 hb5
  obtain ⟨a5, cap5, rfl, hn5, hm5, hg5⟩ := HE5.out.1.f
  obtain ⟨a4, cap4, rfl, hn4, hm4, hg4⟩ := HE5.out.2.f
  have hlim := M.all_lim l d n a t (by omega)
  generalize allB l (limS d n a t) = X5 at *
  generalize allB l (limS 0 0 0 0) = X4 at *
  rcases hlim with ⟨h3, hle, hpl⟩ | ⟨h3, rfl⟩
  · obtain ⟨e5, p5, c5⟩ := X5
    dsimp only at *
    subst h3
    clear hg4 hg5
    go_wp2_with fail
    go_ret
    exact ⟨rfl, HF.out⟩
  · obtain ⟨e5, p5, c5⟩ := X5
    dsimp only at *
    unfold maxLen at hm4 hm5
    have HG : Hid _ := And.intro hg4 hg5
    clear hg4 hg5
    go_wp2_with fail
    go_loopg [11] e5.length (fun m v11 wr => ∃ i : Nat, v11 = .int .i64 i ∧ i + m = e5.length ∧ SameW w5 wr)
    case atStart => exact ⟨0, rfl, by omega, SameW.refl _⟩
    case round =>
      obtain ⟨i, rfl, hin, hS⟩ := hrel
      have HS : Hid _ := hS
      by_cases hi : i < e5.length
      · obtain ⟨m, rfl⟩ : ∃ m, gk = m + 1 := ⟨gk - 1, by omega⟩
        have hnil : e5 ≠ [] := by rintro rfl; simp at hi
        obtain ⟨g4, o4, rfl, hk4⟩ := HG.out.1 hnil
        obtain ⟨g5, o5, rfl, hk5⟩ := HG.out.2 hnil
        obtain ⟨e, he⟩ : ∃ e, e5[i]? = some e := ⟨_, List.getElem?_eq_getElem hi⟩
        have x0 := (hS.cell _).trans (hk5 i e he).1
        have x1 := (hS.cell _).trans (hk5 i e he).2
        have y0 := (hS.cell _).trans (hk4 i e he).1
        have y1 := (hS.cell _).trans (hk4 i e he).2
        clear hk4 hk5 he hS hnil
        have hiI : (i : Int) < (e5.length : Int) := by omega
        have hi0 : (0 : Int) ≤ (i : Int) := by omega
        go_wp2_with fail
        go_quiet (fail)
        go_wp2_with fail
        go_roundg m
        case measure => omega
        case rel => exact ⟨i + 1, by simp, by omega, ⟨HS.out.heap, HS.out.os, HS.out.tape, HS.out.output⟩⟩
      · clear hS
        go_wp2_with fail
        go_ret
        exact ⟨rfl, HF.out.trans HS.out.below⟩
end Go.Proofs.YtjcgnbmpnaapdaaDoor
