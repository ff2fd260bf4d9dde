/- An event handed to the second telling. -/
import Derived.Test.YtgidbmiahckleaaRf5
import Derived.Deep.RegionLawGrows
namespace Go.Proofs.Ytgidbmiahckleaa
open Go.RowKit
set_option linter.unusedVariables false

abbrev atv (a : ByteArray × ByteArray × Int) : List Value := [.string a.1, .string a.2.1, .int .i64 a.2.2]
/-- Where Of stands. -/
structure OfI (w : World) (k p : Int) (nm tx : ByteArray) (sv : Value) (l : Ats) (i : Nat) (rv : Value) (wr : World) : Prop where
  e : wr.heap[w.heap.size]? = some (.cells #[.int .i64 k, .int .i64 p, .string nm, .string tx, sv] 35 (0, 0))
  z : wr.heap[w.heap.size + 1]? = some (.cells #[.int .i64 0, .int .i64 0, .string ⟨#[]⟩, .string ⟨#[]⟩, .slice none 0 0] 51 (0, 0))
  r : wr.heap[w.heap.size + 1 + 1]? = some (.cells #[.int .i64 k, .int .i64 p, .string nm, .string tx, rv] 51 (0, 0))
  row : wr.ownsRow (w.heap.size + 1 + 1 + 1) 86 3 rv i ((l.take i).flatMap atv)
  bel : Below w.heap.size w wr
theorem OfI.start (w : World) (k p : Int) (nm tx : ByteArray) (sv : Value) (l : Ats) : OfI w k p nm tx sv l 0 (.slice none 0 0) (((w.alloc (.cells #[.int .i64 k, .int .i64 p, .string nm, .string tx, sv] 35)).alloc (.cells #[.int .i64 0, .int .i64 0, .string ⟨#[]⟩, .string ⟨#[]⟩, .slice none 0 0] 51)).alloc (.cells #[.int .i64 k, .int .i64 p, .string nm, .string tx, .slice none 0 0] 51)) := by
  refine ⟨xa3 _ _ _ _, ?_, ?_, ⟨rfl, .inl ⟨rfl, rfl⟩⟩, (((Below.refl _ _).alloc (Nat.le_refl _) _).alloc (by simp) _).alloc (by simp; omega) _⟩
  · have := xa2 (w.alloc (.cells #[.int .i64 k, .int .i64 p, .string nm, .string tx, sv] 35)) (.cells #[.int .i64 0, .int .i64 0, .string ⟨#[]⟩, .string ⟨#[]⟩, .slice none 0 0] 51) (.cells #[.int .i64 k, .int .i64 p, .string nm, .string tx, .slice none 0 0] 51)
    rwa [sza] at this
  · have := nw_heap ((w.alloc (.cells #[.int .i64 k, .int .i64 p, .string nm, .string tx, sv] 35)).alloc (.cells #[.int .i64 0, .int .i64 0, .string ⟨#[]⟩, .string ⟨#[]⟩, .slice none 0 0] 51)) (.cells #[.int .i64 k, .int .i64 p, .string nm, .string tx, .slice none 0 0] 51)
    rwa [sza, sza] at this
theorem OfI.more {w wr w3 : World} {k p : Int} {nm tx : ByteArray} {sv rv rv' : Value} {l : Ats} {i : Nat} (hi : i < l.length) (h : OfI w k p nm tx sv l i rv wr) (hg : wr.grownBy w3 rv.ownBlock)
    (hrow : w3.ownsRow (w.heap.size + 1 + 1 + 1) 86 3 rv' (i + 1) ((l.take i).flatMap atv ++ atv (l[i]'hi))) : OfI w k p nm tx sv l (i + 1) rv' (w3.setCell ⟨w.heap.size + 1 + 1, 4, none⟩ rv') := by
  have hlt : ∀ b, rv.ownBlock = some b → w.heap.size + 1 + 1 + 1 ≤ b := fun b hb => (row_base h.row b hb).1
  have keep : ∀ b o, b < w.heap.size + 1 + 1 + 1 → wr.heap[b]? = some o → w3.heap[b]? = some o := fun b o hb ho => (hg.block b (lt_of ho) (fun e => by have := hlt b e.symm; omega)).trans ho
  have hr3 := keep _ _ (by omega) h.r
  obtain ⟨g1, t1⟩ := setC (i := 4) rv' hr3
  refine ⟨grown_at g1 (keep _ _ (by omega) h.e) (by omega), grown_at g1 (keep _ _ (by omega) h.z) (by omega), t1, ?_, (h.bel.grown hg h.bel.size (fun b hb => by have := hlt b hb; omega)).setCell (p := ⟨w.heap.size + 1 + 1, 4, none⟩) (by show w.heap.size ≤ w.heap.size + 1 + 1; omega) _⟩
  have e : (l.take (i + 1)).flatMap atv = (l.take i).flatMap atv ++ atv (l[i]'hi) := by
    rw [List.take_add_one, List.getElem?_eq_getElem hi, List.flatMap_append]
    simp
  rw [e]
  exact hrow.kept g1 (.inr (fun q => by have := (row_base hrow _ q).1; omega))
theorem info86 : (Try.prog.info? 86).map (fun i => (i.zero.map fun z => z.cells.size, i.size, i.bytes)) = some (some 3, 3, 40) := by kernel_rfl
theorem info86p : ∃ i z, Try.prog.info? 86 = some i ∧ i.zero = some z ∧ z.cells.size = 3 ∧ i.size = 3 ∧ i.bytes = 40 := by
  have := info86
  cases h : Try.prog.info? 86 with
  | none => rw [h] at this; simp at this
  | some i =>
    rw [h] at this
    simp at this
    obtain ⟨⟨z, h1, h2⟩, h3, h4⟩ := this
    exact ⟨i, z, rfl, h1, h2, h3, h4⟩
theorem atv_get : ∀ (l : Ats) (i c : Nat) (hi : i < l.length), c < 3 → (l.flatMap atv)[3 * i + c]? = (atv (l[i]'hi))[c]?
  | [], i, c, hi, _ => by simp at hi
  | a :: l, 0, c, hi, hc => by
    rw [List.flatMap_cons, List.getElem?_append_left (by simp; omega)]
    simp
  | a :: l, i + 1, c, hi, hc => by
    rw [List.flatMap_cons, List.getElem?_append_right (by simp; omega)]
    have e : 3 * (i + 1) + c - 3 = 3 * i + c := by omega
    simp only [List.length_cons, List.length_nil]
    rw [e, atv_get l i c (by simpa using hi) hc]
    simp
theorem row_ato {w : World} {base n : Nat} {v : Value} {l : Ats} (h : w.ownsRow base 86 3 v n (l.flatMap atv)) (hn : n = l.length) (hl : l.length ≤ maxLen) (hs : ∀ x ∈ l, x.1.size ≤ maxLen) : ∃ a cap, v = .slice a l.length cap ∧ AtO w a l := by
  subst hn
  rcases h.2 with ⟨rfl, h0⟩ | ⟨g, cap, cur, rfl, hbg, hg, _⟩
  · exact ⟨none, 0, by rw [h0], .inl (List.eq_nil_of_length_eq_zero h0)⟩
  · refine ⟨_, cap, rfl, .inr ⟨g, 0, rfl, lt_of hg, hl, fun i hi => ?_⟩⟩
    have hcell : ∀ c v, c < 3 → (atv (l[i]'hi))[c]? = some v → w.cell? ⟨g, 0 + i * 3 + c, none⟩ = some v := by
      intro c v hc hv
      have := h.cells (g := g) rfl (3 * i + c) v ((atv_get l i c hi hc).trans hv)
      rw [addr_add0] at this
      have e : 0 + i * 3 + c = 3 * i + c := by omega
      rw [e]
      exact this
    exact ⟨hcell 0 _ (by omega) rfl, hcell 1 _ (by omega) rfl, hcell 2 _ (by omega) rfl, hs _ (List.getElem_mem hi)⟩
theorem gb_go {W w4 : World} {o : Option Nat} (h : W.drew.grownBy w4 o) : W.grownBy w4 o := ⟨h.os, h.tape, h.output, h.size, h.block⟩
theorem set5 {N X : Nat} {w w2 : World} {x y z u v : Value} {t : TypeId} (hb : Below N w w2) (hX : N ≤ X) (h : w2.heap[X]? = some (.cells #[x, y, z, u, v] t (0, 0))) (a b c d e : Value) :
    (((((w2.setCell ⟨X, 0, none⟩ a).setCell ⟨X, 1, none⟩ b).setCell ⟨X, 2, none⟩ c).setCell ⟨X, 3, none⟩ d).setCell ⟨X, 4, none⟩ e).heap[X]? = some (.cells #[a, b, c, d, e] t (0, 0)) ∧ Below N w (((((w2.setCell ⟨X, 0, none⟩ a).setCell ⟨X, 1, none⟩ b).setCell ⟨X, 2, none⟩ c).setCell ⟨X, 3, none⟩ d).setCell ⟨X, 4, none⟩ e) ∧ (∀ k, k ≠ X → (((((w2.setCell ⟨X, 0, none⟩ a).setCell ⟨X, 1, none⟩ b).setCell ⟨X, 2, none⟩ c).setCell ⟨X, 3, none⟩ d).setCell ⟨X, 4, none⟩ e).heap[k]? = w2.heap[k]?) := by
  have h2 := bset (i := 4) (bset (i := 3) (bset (i := 2) (bset (i := 1) (bset (i := 0) h a) b) c) d) e
  refine ⟨h2, ((((hb.setCell (p := ⟨X, 0, none⟩) hX a).setCell (p := ⟨X, 1, none⟩) hX b).setCell (p := ⟨X, 2, none⟩) hX c).setCell (p := ⟨X, 3, none⟩) hX d).setCell (p := ⟨X, 4, none⟩) hX e, fun k hk => ?_⟩
  rw [Below.heap_setCell _ _ _ _ hk, Below.heap_setCell _ _ _ _ hk, Below.heap_setCell _ _ _ _ hk, Below.heap_setCell _ _ _ _ hk, Below.heap_setCell _ _ _ _ hk]
set_option maxRecDepth 100000 in
set_option maxHeartbeats 6400000 in
theorem of_e {w : World} (k p : Int) (nm tx : ByteArray) {a : Option Addr} {c : Nat} {l : Ats} (h : AtO w a l) (hl : l.length ≤ 1000000) (hs : ∀ x ∈ l, x.1.size ≤ maxLen) :
    Calls Try.prog 14 #[evV k p nm tx a l.length c] w fun e w' => ∃ ra rc, e = .returned (evV k p nm tx ra l.length rc) ∧ AtO w' ra l ∧ Below w.heap.size w w' := by
  obtain ⟨i86, z86, hi86, hz0, hzc, hz1, hz3⟩ := info86p
  have HC : Hid _ := And.intro h hs
  clear h hs
  go_enter Try.func14, Try.ntmps14
  go_wp2_with fail
  go_loopg [4] l.length (fun m v4 wr => ∃ (i : Nat) (rv : Value), v4 = .int .i64 i ∧ i + m = l.length ∧ OfI w k p nm tx (.slice a l.length c) l i rv wr)
  case atStart => exact ⟨0, _, rfl, by omega, OfI.start w k p nm tx (.slice a l.length c) l⟩
  case round =>
    obtain ⟨i, rv, rfl, him, hI⟩ := hrel
    obtain ⟨ra, rc, rfl⟩ := row_form hI.row
    have e4 := (bl5 hI.e).1.2.2.2.2
    obtain ⟨⟨k0, k1, k2, k3, r4⟩, _⟩ := bl5 hI.r
    have f4 : wr.frozen? ⟨w.heap.size + 1 + 1, 4, none⟩ = false := by simp [World.frozen?, hI.r]
    have hRlt := lt_of hI.r
    by_cases hi : i < l.length
    · obtain ⟨m, rfl⟩ : ∃ m, gk = m + 1 := ⟨gk - 1, by omega⟩
      rcases HC.out.1 with he | ⟨g, off, rfl, hgl, _, hac⟩
      · rw [he] at hi; simp at hi
      obtain ⟨q0, q1, q2, _⟩ := hac i hi
      have x0 := (hI.bel.cell (p := ⟨g, off + i * 3, none⟩) hgl).trans q0
      have x1 := (hI.bel.cell (p := ⟨g, off + i * 3 + 1, none⟩) hgl).trans q1
      have x2 := (hI.bel.cell (p := ⟨g, off + i * 3 + 2, none⟩) hgl).trans q2
      have hmore := fun w3 rv' => OfI.more (w3 := w3) (rv' := rv') hi hI
      have hrow := hI.row
      generalize (l[i]'hi) = A at *
      obtain ⟨an, av, ap⟩ := A
      dsimp only at *
      have HI : Hid _ := And.intro hmore (And.intro hrow hI)
      clear hmore hrow hI q0 q1 q2 hac
      go_wp2_with fail
      go_region_law (first
        | (refine step_append_lies _ rfl (.tmp 22) (.tmp 28) 49 rfl (w.heap.size + 1 + 1 + 1) 86 i86 z86 3 40 Try.underlying49 hi86 hz0 hz1 hz3 hzc (by decide) (.slice ra i rc) i ((l.take i).flatMap atv) (by simp [Act.eval]) (World.ownsRow.alloc HI.out.2.1 _) ⟨wr.heap.size, 0, none⟩ 1 1 (atv (an, av, ap)) (by simp [Act.eval]) rfl (World.news_of_block (nw_heap wr _)) (by intro u hu; simp at hu; rcases hu with rfl | rfl | rfl <;> rfl) (by decide) (by unfold maxLen; omega) (by omega) (by simp; omega) _ rfl ?_
           intro g4 cap4 w4 hown4 hg4 hat4 hlt4
           have T4 := grown_o hg4 ((((Below.refl wr.heap.size wr).alloc (Nat.le_refl _) _).block _ (lt_of HI.out.2.2.r)).trans HI.out.2.2.r) (fun e => by have := (row_base HI.out.2.1 _ e).1; omega)
           obtain ⟨⟨_, _, _, _, c4'⟩, _⟩ := bl5 T4
           have f4' : w4.frozen? ⟨w.heap.size + 1 + 1, 4, none⟩ = false := by simp [World.frozen?, T4]
           have HN4 : Hid _ := And.intro hown4 hg4
           clear hown4 hg4 hat4 hlt4 T4))
      all_goals
        go_wp2_with fail
        go_roundg m
        case measure => omega
        case rel => exact ⟨i + 1, _, by simp, by omega, HI.out.1 w4 _ ((World.grownBy_alloc wr (.cells #[.string an, .string av, .int .i64 ap] 86) _).trans (gb_go HN4.out.2)) HN4.out.1⟩
    · obtain rfl : i = l.length := by omega
      obtain ⟨⟨z0, z1, z2, z3, z4⟩, _⟩ := bl5 hI.z
      have g0 : wr.frozen? ⟨w.heap.size + 1, 0, none⟩ = false := by simp [World.frozen?, hI.z]
      have g1 : wr.frozen? ⟨w.heap.size + 1, 1, none⟩ = false := by simp [World.frozen?, hI.z]
      have g2 : wr.frozen? ⟨w.heap.size + 1, 2, none⟩ = false := by simp [World.frozen?, hI.z]
      have g3 : wr.frozen? ⟨w.heap.size + 1, 3, none⟩ = false := by simp [World.frozen?, hI.z]
      have g4 : wr.frozen? ⟨w.heap.size + 1, 4, none⟩ = false := by simp [World.frozen?, hI.z]
      have HI : Hid _ := hI
      clear hI
      go_wp2_with fail
      obtain ⟨q1, q2, q4⟩ := set5 HI.out.bel (Nat.le_add_right _ 1) HI.out.z (.int .i64 k) (.int .i64 p) (.string nm) (.string tx) (.slice ra l.length rc)
      generalize (((((wr.setCell ⟨w.heap.size + 1, 0, none⟩ (.int .i64 k)).setCell ⟨w.heap.size + 1, 1, none⟩ (.int .i64 p)).setCell ⟨w.heap.size + 1, 2, none⟩ (.string nm)).setCell ⟨w.heap.size + 1, 3, none⟩ (.string tx)).setCell ⟨w.heap.size + 1, 4, none⟩ (.slice ra l.length rc)) = W5 at *
      obtain ⟨⟨y0, y1, y2, y3, y4⟩, _⟩ := bl5 q1
      have hrow5 := row_same HI.out.row (fun j e => q4 j (fun q => by have := (row_base HI.out.row j e).1; omega))
      rw [List.take_length] at hrow5
      obtain ⟨a', c', e', hat'⟩ := row_ato hrow5 rfl (by unfold maxLen; omega) HC.out.2
      simp only [Value.slice.injEq] at e'
      obtain ⟨rfl, _, rfl⟩ := e'
      exact bodyPost_ret (v := evV k p nm tx ra l.length rc) (by simp [results, Try.results14, go_sem, y0, y1, y2, y3, y4]) rfl ⟨ra, rc, rfl, hat', q2⟩
end Go.Proofs.Ytgidbmiahckleaa
