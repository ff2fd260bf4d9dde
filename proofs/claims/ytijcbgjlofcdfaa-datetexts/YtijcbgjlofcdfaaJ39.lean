/- Joined: Kn, Pr0. -/
import Derived.Test.YtijcbgjlofcdfaaRa3
import Derived.Test.YtijcbgjlofcdfaaRs5
import Derived.Test.YtijcbgjlofcdfaaRr9
import Derived.Test.YtijcbgjlofcdfaaQr3
namespace Go.Proofs.Ytijcbgjlofcdfaa
open Go.RowKit
set_option linter.unusedVariables false

/-- Parse of a kind from 1 to 8. -/
theorem parse_k (k : Int) (s : ByteArray) (w : World) (hs : s.size ≤ maxLen) (h1 : 1 ≤ k) (h8 : k ≤ 8) : Calls Try.prog 10 #[.int .i64 k, .string s] w fun e w' => e = .returned (.tuple #[moV ((prM k (bl s)).getD z0), .int .i64 (if (prM k (bl s)).isSome then 0 else 2)]) ∧ Below w.heap.size w w' := by
  refine Calls.mono (parse_p k s w hs) ?_
  rintro e w' ⟨hb, rfl⟩
  rw [pa_pr h1 h8, if_pos ⟨h1, h8⟩, if_pos ⟨h1, h8⟩]
  exact ⟨rfl, hb⟩
theorem parse_bad (k : Int) (s : ByteArray) (w : World) (hs : s.size ≤ maxLen) (h : ¬ (1 ≤ k ∧ k ≤ 8)) : Calls Try.prog 10 #[.int .i64 k, .string s] w fun e w' => e = .returned (.tuple #[moV z0, .int .i64 1]) ∧ Below w.heap.size w w' := by
  refine Calls.mono (parse_p k s w hs) ?_
  rintro e w' ⟨hb, rfl⟩
  rw [if_neg h, if_neg h]
  exact ⟨rfl, hb⟩
theorem span_k (s : ByteArray) (w : World) (hs : s.size ≤ maxLen) : Calls Try.prog 12 #[.string s] w fun e w' => e = .returned (.tuple #[spV ((prP (bl s)).getD sp0), .int .i64 (if (prP (bl s)).isSome then 0 else 2)]) ∧ Below w.heap.size w w' := by
  refine Calls.mono (parseSpan_p s w hs) ?_
  rintro e w' ⟨hb, rfl⟩
  rw [sp_eq]
  exact ⟨rfl, hb⟩
abbrev t1 : ByteArray := ⟨#[50, 48, 48, 48, 45, 48, 50, 45, 50, 57, 84, 50, 52, 58, 48, 48, 58, 48, 48]⟩
abbrev t2 : ByteArray := ⟨#[50, 48, 48, 48, 45, 48, 51, 45, 48, 49, 84, 48, 48, 58, 48, 48, 58, 48, 48, 90]⟩
abbrev t3 : ByteArray := ⟨#[49, 57, 48, 48, 45, 48, 50, 45, 50, 57]⟩
abbrev t4 : ByteArray := ⟨#[80, 49, 77]⟩
abbrev t5 : ByteArray := ⟨#[80, 51, 48, 68]⟩
abbrev kA : Mo := ⟨1, 2000, 3, 1, 0, 0, false, 0⟩
abbrev kB : Mo := ⟨1, 2000, 3, 1, 0, 0, true, 0⟩
abbrev kP : Sp := ⟨1, 0, 0⟩
abbrev kQ : Sp := ⟨0, 2592000, 0⟩
theorem f1 : prM 1 (bl t1) = some kA := by decide +kernel
theorem f2 : prM 1 (bl t2) = some kB := by decide +kernel
theorem f3 : prM 2 (bl t3) = none := by decide +kernel
theorem f4 : prP (bl t4) = some kP := by decide +kernel
theorem f5 : prP (bl t5) = some kQ := by decide +kernel
theorem f6 : cmpM kA kB = 2 := by decide +kernel
theorem f7 : cmpP kP kQ = 2 := by decide +kernel
theorem f8 : daysS 2001 1 1 = 366 := by decide +kernel
theorem f9 : lpL (lnY (-1)) = true := by decide +kernel
theorem kA_L : MoL kA := ⟨⟨by simp, by simp, by simp, by simp, by simp, by simp, by simp, by simp, by simp, by simp⟩, by simp, by simp, by simp, by simp⟩
theorem kB_L : MoL kB := ⟨⟨by simp, by simp, by simp, by simp, by simp, by simp, by simp, by simp, by simp, by simp⟩, by simp, by simp, by simp, by simp⟩
theorem kP_T : SpT kP := ⟨by simp, by simp, by simp, by simp, by simp, by simp⟩
theorem kQ_T : SpT kQ := ⟨by simp, by simp, by simp, by simp, by simp, by simp⟩
set_option maxHeartbeats 1000000 in
theorem known_p (w : World) : Calls Try.prog 9 #[] w fun e w' => e = .returned (.bool true) ∧ Below w.heap.size w w' := by
  have q1 := fun W : World => parse_k 1 t1 W (by decide) (by omega) (by omega)
  have q2 := fun W : World => parse_k 1 t2 W (by decide) (by omega) (by omega)
  have q3 := fun W : World => parse_k 2 t3 W (by decide) (by omega) (by omega)
  have q4 := fun W : World => span_k t4 W (by decide)
  have q5 := fun W : World => span_k t5 W (by decide)
  rw [f1] at q1
  rw [f2] at q2
  rw [f3] at q3
  rw [f4] at q4
  rw [f5] at q5
  have q6 := fun W : World => cmp_p kA kB W kA_L kB_L
  rw [f6] at q6
  have q7 := fun W : World => cmpSpan_p kP kQ W kP_T kQ_T
  rw [f7] at q7
  have q8 := fun W : World => days_p 2001 1 1 W (by omega) (by omega) (by omega) (by omega) (by omega) (by omega)
  rw [f8] at q8
  have q9 := fun W : World => Leap_p (-1) W (by omega) (by omega)
  rw [f9] at q9
  simp only [Option.getD_some, Option.getD_none, Option.isSome_some, Option.isSome_none, if_true, Bool.false_eq_true, if_false] at q1 q2 q3 q4 q5
  have HC : Hid _ := And.intro q1 (And.intro q2 (And.intro q3 (And.intro q4 (And.intro q5 (And.intro q6 (And.intro q7 (And.intro q8 q9)))))))
  clear q1 q2 q3 q4 q5 q6 q7 q8 q9
  go_enter Try.func9, Try.ntmps9
  have HB : Hid (Below w.heap.size w w) := Below.refl _ _
  go_wp2_with fail
  refine Calls.mono (HC.out.1 _) ?_
  rintro e w1 ⟨rfl, hb1⟩
  go_wp2_with fail
  obtain ⟨V1, hV1⟩ : ∃ V, w1.alloc (.cells (moC kA) 24) = V := ⟨_, rfl⟩
  rw [hV1]
  have hbV : Below w1.heap.size w1 V1 := by rw [← hV1]; exact (Below.refl _ _).alloc (Nat.le_refl _) _
  have x1 : V1.heap[w1.heap.size]? = some (.cells (moC kA) 24 (0, 0)) := by rw [← hV1]; exact nw_heap _ _
  clear hV1
  have hstep : Below w.heap.size w V1 := bl_step hb1 hbV
  have HB : Hid (Below w.heap.size w V1) := HB.out.trans (hstep.mono HB.out.size)
  clear hstep hbV hb1
  go_wp2_with fail
  refine Calls.mono (HC.out.2.1 _) ?_
  rintro e w2 ⟨rfl, hb2⟩
  go_wp2_with fail
  obtain ⟨V2, hV2⟩ : ∃ V, w2.alloc (.cells (moC kB) 24) = V := ⟨_, rfl⟩
  rw [hV2]
  have hbV : Below w2.heap.size w2 V2 := by rw [← hV2]; exact (Below.refl _ _).alloc (Nat.le_refl _) _
  have x2 : V2.heap[w2.heap.size]? = some (.cells (moC kB) 24 (0, 0)) := by rw [← hV2]; exact nw_heap _ _
  clear hV2
  have hstep : Below V1.heap.size V1 V2 := bl_step hb2 hbV
  replace x1 := (hstep.block _ (lt_of x1)).trans x1
  have HB : Hid (Below w.heap.size w V2) := HB.out.trans (hstep.mono HB.out.size)
  clear hstep hbV hb2
  go_wp2_with fail
  refine Calls.mono (HC.out.2.2.1 _) ?_
  rintro e w3 ⟨rfl, hb3⟩
  go_wp2_with fail
  obtain ⟨V3, hV3⟩ : ∃ V, w3.alloc (.cells (moC z0) 24) = V := ⟨_, rfl⟩
  rw [hV3]
  have hbV : Below w3.heap.size w3 V3 := by rw [← hV3]; exact (Below.refl _ _).alloc (Nat.le_refl _) _
  have x3 : V3.heap[w3.heap.size]? = some (.cells (moC z0) 24 (0, 0)) := by rw [← hV3]; exact nw_heap _ _
  clear hV3
  have hstep : Below V2.heap.size V2 V3 := bl_step hb3 hbV
  replace x1 := (hstep.block _ (lt_of x1)).trans x1
  replace x2 := (hstep.block _ (lt_of x2)).trans x2
  have HB : Hid (Below w.heap.size w V3) := HB.out.trans (hstep.mono HB.out.size)
  clear hstep hbV hb3
  go_wp2_with fail
  refine Calls.mono (HC.out.2.2.2.1 _) ?_
  rintro e w4 ⟨rfl, hb4⟩
  go_wp2_with fail
  obtain ⟨V4, hV4⟩ : ∃ V, w4.alloc (.cells (spC kP) 32) = V := ⟨_, rfl⟩
  rw [hV4]
  have hbV : Below w4.heap.size w4 V4 := by rw [← hV4]; exact (Below.refl _ _).alloc (Nat.le_refl _) _
  have x4 : V4.heap[w4.heap.size]? = some (.cells (spC kP) 32 (0, 0)) := by rw [← hV4]; exact nw_heap _ _
  clear hV4
  have hstep : Below V3.heap.size V3 V4 := bl_step hb4 hbV
  replace x1 := (hstep.block _ (lt_of x1)).trans x1
  replace x2 := (hstep.block _ (lt_of x2)).trans x2
  replace x3 := (hstep.block _ (lt_of x3)).trans x3
  have HB : Hid (Below w.heap.size w V4) := HB.out.trans (hstep.mono HB.out.size)
  clear hstep hbV hb4
  go_wp2_with fail
  refine Calls.mono (HC.out.2.2.2.2.1 _) ?_
  rintro e w5 ⟨rfl, hb5⟩
  go_upto_region 6 with fail
  obtain ⟨V5, hV5⟩ : ∃ V, w5.alloc (.cells (spC kQ) 32) = V := ⟨_, rfl⟩
  rw [hV5]
  have hbV : Below w5.heap.size w5 V5 := by rw [← hV5]; exact (Below.refl _ _).alloc (Nat.le_refl _) _
  have x5 : V5.heap[w5.heap.size]? = some (.cells (spC kQ) 32 (0, 0)) := by rw [← hV5]; exact nw_heap _ _
  clear hV5
  have hstep : Below V4.heap.size V4 V5 := bl_step hb5 hbV
  replace x1 := (hstep.block _ (lt_of x1)).trans x1
  replace x2 := (hstep.block _ (lt_of x2)).trans x2
  replace x3 := (hstep.block _ (lt_of x3)).trans x3
  replace x4 := (hstep.block _ (lt_of x4)).trans x4
  have HB : Hid (Below w.heap.size w V5) := HB.out.trans (hstep.mono HB.out.size)
  clear hstep hbV hb5
  obtain ⟨⟨a0', a1', a2', a3', a4', a5', a6', a7'⟩, _⟩ := blk8 x1
  obtain ⟨⟨b0', b1', b2', b3', b4', b5', b6', b7'⟩, _⟩ := blk8 x2
  have HX : Hid _ := And.intro x4 x5
  clear x1 x2 x3 x4 x5
  go_wp2_with fail
  refine Calls.mono (HC.out.2.2.2.2.2.1 _) ?_
  rintro e w6 ⟨rfl, hb6⟩
  have x4 := (hb6.block _ (lt_of HX.out.1)).trans HX.out.1
  have x5 := (hb6.block _ (lt_of HX.out.2)).trans HX.out.2
  have HB : Hid (Below w.heap.size w w6) := HB.out.trans (hb6.mono HB.out.size)
  clear hb6 a0' a1' a2' a3' a4' a5' a6' a7' b0' b1' b2' b3' b4' b5' b6' b7'
  obtain ⟨a0', a1', a2'⟩ := blk3 x4
  obtain ⟨b0', b1', b2'⟩ := blk3 x5
  clear x4 x5 HX
  go_wp2_with fail
  refine Calls.mono (HC.out.2.2.2.2.2.2.1 _) ?_
  rintro e w7 ⟨rfl, hb7⟩
  have HB : Hid (Below w.heap.size w w7) := HB.out.trans (hb7.mono HB.out.size)
  clear hb7 a0' a1' a2' b0' b1' b2'
  go_wp2_with fail
  refine Calls.mono (HC.out.2.2.2.2.2.2.2.1 _) ?_
  rintro e w8 ⟨rfl, hb8⟩
  have HB : Hid (Below w.heap.size w w8) := HB.out.trans (hb8.mono HB.out.size)
  clear hb8
  go_wp2_with fail
  refine Calls.mono (HC.out.2.2.2.2.2.2.2.2 _) ?_
  rintro e w9 ⟨rfl, hw⟩
  subst hw
  go_wp2_with fail
  go_ret
  exact ⟨rfl, HB.out⟩
end Go.Proofs.Ytijcbgjlofcdfaa
namespace Go.Proofs.Ytijcbgjlofcdfaa
open Go.RowKit
set_option linter.unusedVariables false

/-- The result's place, the reader, the moment. -/
structure PZ (w W : World) (s : ByteArray) (p : Nat) (b : Bool) (a : Mo) : Prop where
  r : W.heap[w.heap.size]? = some (.cells mo0 28 (0, 0))
  x : RdAt W (w.heap.size + 1) s p b
  le : p ≤ s.size
  y : W.heap[w.heap.size + 1 + 1]? = some (.cells (moC a) 28 (0, 0))
  hb : Below w.heap.size w W
theorem PZ.init (w : World) (s : ByteArray) (k : Int) : PZ w (((w.alloc (.cells mo0 28)).alloc (.cells #[.string s, .int .i64 0, .bool false] 60)).alloc (.cells (moC ⟨k, 2000, 1, 1, 0, 0, false, 0⟩) 28)) s 0 false ⟨k, 2000, 1, 1, 0, 0, false, 0⟩ := by
  obtain ⟨a, b, c, d⟩ := box3' w (.cells mo0 28) (.cells #[.string s, .int .i64 0, .bool false] 60) (.cells (moC ⟨k, 2000, 1, 1, 0, 0, false, 0⟩) 28)
  exact ⟨a, b, Nat.zero_le _, c, d⟩
theorem PZ.ex {w W : World} {s : ByteArray} {p : Nat} {b : Bool} {a : Mo} (h : PZ w W s p b a) : ∃ W', W = W' ∧ PZ w W' s p b a := ⟨W, rfl, h⟩
theorem PZ.rp {w W W' : World} {s : ByteArray} {p p' : Nat} {b b' : Bool} {a : Mo} (h : PZ w W s p b a) (r : RP (w.heap.size + 1) s b W W' p' b') : PZ w W' s p' b' a :=
  ⟨(r.fr.block _ (lt_of h.r) (by omega)).trans h.r, r.x, r.le, (r.fr.block _ (lt_of h.y) (by omega)).trans h.y, h.hb.trans (r.fr.toBelow h.hb.size (by omega))⟩
theorem PZ.setY {w W : World} {s : ByteArray} {p : Nat} {b : Bool} {a a' : Mo} (h : PZ w W s p b a) (i : Nat) (v : Value) (e : (moC a).setIfInBounds i v = moC a') : PZ w (W.setCell ⟨w.heap.size + 1 + 1, i, none⟩ v) s p b a' :=
  ⟨(Below.heap_setCell _ _ _ _ (by simp; omega)).trans h.r, (Below.heap_setCell _ _ _ _ (by simp)).trans h.x, h.le, by rw [← e]; exact bset h.y v, h.hb.setCell (p := ⟨w.heap.size + 1 + 1, i, none⟩) (by simp; omega) v⟩
theorem PZ.zs {w W : World} {s : ByteArray} {p : Nat} {b : Bool} {a : Mo} (h : PZ w W s p b a) : ZS W W (w.heap.size + 1) (w.heap.size + 1 + 1) s p b a := ⟨h.x, h.le, h.y, by omega, Fro.refl _ _⟩
theorem PZ.ofz {w W W' : World} {s : ByteArray} {p p' : Nat} {b b' : Bool} {a a' : Mo} (h : PZ w W s p b a) (z : ZS W W' (w.heap.size + 1) (w.heap.size + 1 + 1) s p' b' a') : PZ w W' s p' b' a' :=
  ⟨(z.fr.block _ (lt_of h.r) (by omega)).trans h.r, z.x, z.le, z.y, h.hb.trans (z.fr.toBelow h.hb.size (by omega))⟩
theorem PZ.drewN {w W : World} {s : ByteArray} {p : Nat} {b : Bool} {a : Mo} (h : PZ w W s p b a) (q : Nat) : PZ w (W.drewN q) s p b a := ⟨h.r, h.x, h.le, h.y, bdrewN h.hb q⟩
/-- What is left to be told. -/
structure PrV (o : Option Mo) (s : ByteArray) (p' : Nat) (b' : Bool) (v : Mo) : Prop where
  yes : ∀ x, o = some x → b' = false ∧ p' = s.size ∧ x = v
  non : o = none → b' = true ∨ p' < s.size
theorem PrV.stepV {α : Type} {o : Option (α × List Int)} {K : α × List Int → Option Mo} {s : ByteArray} {p1 p' : Nat} {b1 b' : Bool} {x : α} {v : Mo} (k : StV o s p1 b1 x) (t : b1 = true → b' = true) (h : b1 = false → PrV (K (x, (bl s).drop p1)) s p' b' v) : PrV (o.bind K) s p' b' v := by
  cases e : o with
  | none => exact ⟨fun y q => by simp at q, fun _ => .inl (t (k.2 e))⟩
  | some z =>
    obtain ⟨h1, h2, h3⟩ := k.1 z.1 z.2 e
    have := h h1
    rw [h2, ← h3] at this
    exact this
theorem PrV.stepT {o : Option (List Int)} {K : List Int → Option Mo} {s : ByteArray} {p1 p' : Nat} {b b1 b' : Bool} {v : Mo} (hb : b = false) (k : StT o s p1 b b1) (t : b1 = true → b' = true) (h : b1 = false → PrV (K ((bl s).drop p1)) s p' b' v) : PrV (o.bind K) s p' b' v := by
  cases e : o with
  | none => exact ⟨fun y q => by simp at q, fun _ => .inl (t (k.2 e))⟩
  | some z =>
    obtain ⟨h1, h3⟩ := k.1 z e
    have := h (h1.trans hb)
    rw [← h3] at this
    exact this
theorem PrV.last {o : Option (Bool × Int)} {f : Bool × Int → Mo} {s : ByteArray} {p' : Nat} {b' : Bool} {hz : Bool} {z : Int} (k : ZnV o s p' b' hz z) : PrV (o.map f) s p' b' (f (hz, z)) := by
  cases e : o with
  | none => exact ⟨fun y q => by simp at q, fun _ => k.2 e⟩
  | some x =>
    obtain ⟨h1, h2, h3, h4⟩ := k.1 x e
    refine ⟨fun y q => ⟨h1, h2, ?_⟩, fun q => by simp at q⟩
    rw [Option.map_some] at q
    obtain rfl := Option.some.inj q
    rw [h3, h4]
theorem PrV.no {o : Option Mo} {s : ByteArray} {p' : Nat} {b' : Bool} {v : Mo} (h : PrV o s p' b' v) (k : b' = true ∨ p' < s.size) : o = none := by
  cases e : o with
  | none => rfl
  | some x =>
    obtain ⟨h1, h2, _⟩ := h.1 x e
    rcases k with k | k
    · rw [h1] at k; cases k
    · omega
theorem PrV.ok {o : Option Mo} {s : ByteArray} {p' : Nat} {v : Mo} (h : PrV o s p' false v) (k : ¬ p' < s.size) : o = some v := by
  cases e : o with
  | none => rcases h.2 e with q | q
            · cases q
            · exact absurd q k
  | some x => rw [(h.1 x e).2.2]
/-- What Parse answers. -/
def PaQ (o : Option Mo) (w : World) (e : Ending) (w' : World) : Prop := e = .returned (.tuple #[moV (o.getD z0), .int .i64 (if o.isSome then 0 else 2)]) ∧ Below w.heap.size w w'
theorem PaQ.no {o : Option Mo} {w w' : World} (h : o = none) (hb : Below w.heap.size w w') : PaQ o w (.returned (.tuple #[moV z0, .int .i64 2])) w' := by subst h; exact ⟨rfl, hb⟩
theorem PaQ.yes {o : Option Mo} {v : Mo} {w w' : World} (h : o = some v) (hb : Below w.heap.size w w') : PaQ o w (.returned (.tuple #[moV v, .int .i64 0])) w' := by subst h; exact ⟨rfl, hb⟩
theorem nx_not {a : Mo} (h : a.s ≠ 86400) : nxM a = a := by unfold nxM; rw [if_neg h]
end Go.Proofs.Ytijcbgjlofcdfaa
