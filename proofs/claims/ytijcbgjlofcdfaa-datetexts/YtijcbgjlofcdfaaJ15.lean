/- Joined: Rr7, Rr8. -/
import Derived.Test.YtijcbgjlofcdfaaJ14
namespace Go.Proofs.Ytijcbgjlofcdfaa
open Go.RowKit
set_option linter.unusedVariables false

/-- A step that told a value: what it makes of the place, of bad, of the value. -/
def StV {α : Type} (o : Option (α × List Int)) (s : ByteArray) (p' : Nat) (b' : Bool) (v : α) : Prop :=
  (∀ x r, o = some (x, r) → b' = false ∧ v = x ∧ r = (bl s).drop p') ∧ (o = none → b' = true)
/-- A step that told none. -/
def StT (o : Option (List Int)) (s : ByteArray) (p' : Nat) (b b' : Bool) : Prop :=
  (∀ r, o = some r → b' = b ∧ r = (bl s).drop p') ∧ (o = none → b' = true)
def ClQ (X : Nat) (s : ByteArray) (p : Nat) (b : Bool) (w : World) (e : Ending) (w' : World) : Prop :=
  ∃ (p' : Nat) (b' : Bool) (v f : Int), e = .returned (.tuple #[.int .i64 v, .int .i64 f]) ∧ RP X s b w w' p' b' ∧ 0 ≤ v ∧ v < 1000000 ∧ 0 ≤ f ∧ f < 1000000000 ∧
    (b = false → StV (clB ((bl s).drop p)) s p' b' (v, f))
theorem RP.trans {X : Nat} {s : ByteArray} {b b1 b2 : Bool} {w w1 w2 : World} {p1 p2 : Nat} (h : RP X s b w w1 p1 b1) (k : RP X s b1 w1 w2 p2 b2) : RP X s b w w2 p2 b2 :=
  ⟨k.x, k.le, h.fr.trans k.fr, fun e => k.st (h.st e)⟩
theorem cl_no {s : ByteArray} {p p' : Nat} {v f : Int} (h : ∀ x, clB ((bl s).drop p) ≠ some x) : StV (clB ((bl s).drop p)) s p' true (v, f) :=
  ⟨fun x r e => absurd e (h _), fun _ => rfl⟩
theorem cl_ch {s : ByteArray} {p p1 p2 p3 p4 p5 p6 : Nat} {b1 b2 b3 b4 b5 b6 b7 : Bool} {h m n f : Int}
    (k1 : StV (inB 0 24 ((bl s).drop p)) s p1 b1 h) (k2 : StT (tkB 58 ((bl s).drop p1)) s p2 b1 b2) (k3 : b2 = false → StV (inB 0 59 ((bl s).drop p2)) s p3 b3 m)
    (k4 : StT (tkB 58 ((bl s).drop p3)) s p4 b3 b4) (k5 : b4 = false → StV (inB 0 59 ((bl s).drop p4)) s p5 b5 n) (k6 : b5 = false → StV (frB ((bl s).drop p5)) s p6 b6 f)
    (t2 : b1 = true → b2 = true) (t3 : b2 = true → b3 = true) (t4 : b3 = true → b4 = true) (t5 : b4 = true → b5 = true) (t6 : b5 = true → b6 = true)
    (h7 : b7 = if h = 24 ∧ (0 < m ∨ 0 < n ∨ 0 < f) then true else b6) : StV (clB ((bl s).drop p)) s p6 b7 (3600 * h + 60 * m + n, f) := by
  have t7 : b6 = true → b7 = true := fun e => by rw [h7]; split <;> simp [e]
  unfold clB
  cases e1 : inB 0 24 ((bl s).drop p) with
  | none => exact ⟨fun x r e => by simp at e, fun _ => t7 (t6 (t5 (t4 (t3 (t2 (k1.2 e1))))))⟩
  | some x1 =>
  obtain ⟨rfl, rfl, hr1⟩ := k1.1 x1.1 x1.2 e1
  rw [Option.bind_some, hr1]
  cases e2 : tkB 58 ((bl s).drop p1) with
  | none => exact ⟨fun x r e => by simp at e, fun _ => t7 (t6 (t5 (t4 (t3 (k2.2 e2)))))⟩
  | some x2 =>
  obtain ⟨rfl, hr2⟩ := k2.1 x2 e2
  rw [Option.bind_some, hr2]
  cases e3 : inB 0 59 ((bl s).drop p2) with
  | none => exact ⟨fun x r e => by simp at e, fun _ => t7 (t6 (t5 (t4 ((k3 rfl).2 e3))))⟩
  | some x3 =>
  obtain ⟨rfl, rfl, hr3⟩ := (k3 rfl).1 x3.1 x3.2 e3
  rw [Option.bind_some, hr3]
  cases e4 : tkB 58 ((bl s).drop p3) with
  | none => exact ⟨fun x r e => by simp at e, fun _ => t7 (t6 (t5 (k4.2 e4)))⟩
  | some x4 =>
  obtain ⟨rfl, hr4⟩ := k4.1 x4 e4
  rw [Option.bind_some, hr4]
  cases e5 : inB 0 59 ((bl s).drop p4) with
  | none => exact ⟨fun x r e => by simp at e, fun _ => t7 (t6 ((k5 rfl).2 e5))⟩
  | some x5 =>
  obtain ⟨rfl, rfl, hr5⟩ := (k5 rfl).1 x5.1 x5.2 e5
  rw [Option.bind_some, hr5]
  cases e6 : frB ((bl s).drop p5) with
  | none => exact ⟨fun x r e => by simp at e, fun _ => t7 ((k6 rfl).2 e6)⟩
  | some x6 =>
  obtain ⟨rfl, rfl, hr6⟩ := (k6 rfl).1 x6.1 x6.2 e6
  rw [Option.bind_some]
  rw [h7]
  split
  · exact ⟨fun x r e => by simp at e, fun _ => rfl⟩
  · refine ⟨fun x r e => ?_, fun e => by simp at e⟩
    simp only [Option.some.injEq, Prod.mk.injEq] at e
    exact ⟨rfl, e.1, e.2.symm.trans hr6⟩
set_option maxHeartbeats 2000000 in
theorem clock_r (X : Nat) (s : ByteArray) (p : Nat) (b : Bool) (w : World) (hx : RdAt w X s p b) (hs : s.size ≤ maxLen) (hp : p ≤ s.size) : Calls Try.prog 32 #[.pointer (some ⟨X, 0, none⟩)] w fun e w' => ClQ X s p b w e w' := by
  have HX : Hid _ := hx
  clear hx
  go_enter Try.func32, Try.ntmps32
  go_wp2_with fail
  refine Calls.mono (in_r X s p b 0 24 _ HX.out hs hp) ?_
  rintro e w1 ⟨p1, b1, h, rfl, r1, h0, h1, k1⟩
  have H1 : Hid _ := And.intro r1 k1
  clear r1 k1
  go_wp2_with fail
  refine Calls.mono (take_r X s p1 b1 58 _ H1.out.1.x hs H1.out.1.le) ?_
  rintro e w2 ⟨p2, b2, rfl, r2, k2⟩
  have H2 : Hid _ := And.intro r2 k2
  clear r2 k2
  go_wp2_with fail
  refine Calls.mono (in_r X s p2 b2 0 59 _ H2.out.1.x hs H2.out.1.le) ?_
  rintro e w3 ⟨p3, b3, m, rfl, r3, m0, m1, k3⟩
  have H3 : Hid _ := And.intro r3 k3
  clear r3 k3
  go_wp2_with fail
  refine Calls.mono (take_r X s p3 b3 58 _ H3.out.1.x hs H3.out.1.le) ?_
  rintro e w4 ⟨p4, b4, rfl, r4, k4⟩
  have H4 : Hid _ := And.intro r4 k4
  clear r4 k4
  go_wp2_with fail
  refine Calls.mono (in_r X s p4 b4 0 59 _ H4.out.1.x hs H4.out.1.le) ?_
  rintro e w5 ⟨p5, b5, n, rfl, r5, n0, n1, k5⟩
  have H5 : Hid _ := And.intro r5 k5
  clear r5 k5
  go_wp2_with fail
  refine Calls.mono (fraction_r X s p5 b5 _ H5.out.1.x hs H5.out.1.le) ?_
  rintro e w6 ⟨p6, b6, f, rfl, r6, f0, f1, k6⟩
  have H6 : Hid _ := And.intro r6 k6
  obtain ⟨x0, x1, x2, y0, y1, y2⟩ := r6.x.cells
  clear r6 k6
  have HE : Hid (∀ w' b7 V, V = 3600 * h + 60 * m + n → RP X s b6 w6 w' p6 b7 → (b7 = if h = 24 ∧ (0 < m ∨ 0 < n ∨ 0 < f) then true else b6) → ClQ X s p b w (.returned (.tuple #[.int .i64 V, .int .i64 f])) w') := (fun w' b7 V hV r7 h7 =>
    ⟨p6, b7, V, f, rfl, H1.out.1.trans (H2.out.1.trans (H3.out.1.trans (H4.out.1.trans (H5.out.1.trans (H6.out.1.trans r7))))), by omega, by omega, f0, f1, fun hb => by
      rw [hV]; exact cl_ch (H1.out.2 hb) H2.out.2 H3.out.2 H4.out.2 H5.out.2 H6.out.2 H2.out.1.st H3.out.1.st H4.out.1.st H5.out.1.st H6.out.1.st h7⟩ : ∀ w' b7 V, V = 3600 * h + 60 * m + n → RP X s b6 w6 w' p6 b7 → (b7 = if h = 24 ∧ (0 < m ∨ 0 < n ∨ 0 < f) then true else b6) → ClQ X s p b w (.returned (.tuple #[.int .i64 V, .int .i64 f])) w')
  have HR : Hid (RP X s b6 w6 w6 p6 b6) := (⟨H6.out.1.x, H6.out.1.le, Fro.refl _ _, fun h => h⟩ : RP X s b6 w6 w6 p6 b6)
  by_cases c1 : h = 24
  · have d1 : (h == 24) = true := by simpa using c1
    by_cases c2 : 0 < m
    · have d2 : decide (0 < m) = true := by simpa using c2
      go_wp2_with fail
      go_ret2
      exact HE.out _ true _ (by omega) HR.out.bad (by rw [if_pos ⟨c1, .inl c2⟩])
    · have d2 : decide (0 < m) = false := by simpa using c2
      by_cases c3 : 0 < n
      · have d3 : decide (0 < n) = true := by simpa using c3
        go_wp2_with fail
        go_ret2
        exact HE.out _ true _ (by omega) HR.out.bad (by rw [if_pos ⟨c1, .inr (.inl c3)⟩])
      · have d3 : decide (0 < n) = false := by simpa using c3
        by_cases c4 : 0 < f
        · have d4 : decide (0 < f) = true := by simpa using c4
          go_wp2_with fail
          go_ret2
          exact HE.out _ true _ (by omega) HR.out.bad (by rw [if_pos ⟨c1, .inr (.inr c4)⟩])
        · have d4 : decide (0 < f) = false := by simpa using c4
          go_wp2_with fail
          go_ret2
          exact HE.out _ b6 _ (by omega) HR.out (by rw [if_neg (by omega)])
  · have d1 : (h == 24) = false := by simpa using c1
    go_wp2_with fail
    go_ret2
    exact HE.out _ b6 _ (by omega) HR.out (by rw [if_neg (by omega)])
end Go.Proofs.Ytijcbgjlofcdfaa
namespace Go.Proofs.Ytijcbgjlofcdfaa
open Go.RowKit
set_option linter.unusedVariables false

/-- The reader beside the moment that it fills. -/
structure ZS (w W : World) (X Y : Nat) (s : ByteArray) (p : Nat) (b : Bool) (a : Mo) : Prop where
  x : RdAt W X s p b
  le : p ≤ s.size
  y : W.heap[Y]? = some (.cells (moC a) 28 (0, 0))
  ne : X ≠ Y
  fr : Fro (fun i => i = X ∨ i = Y) w W
theorem ZS.drewN {w W : World} {X Y : Nat} {s : ByteArray} {p : Nat} {b : Bool} {a : Mo} (h : ZS w W X Y s p b a) (q : Nat) : ZS w (W.drewN q) X Y s p b a := ⟨h.x, h.le, h.y, h.ne, h.fr.drewN q⟩
theorem ZS.rp {w W W' : World} {X Y : Nat} {s : ByteArray} {p p' : Nat} {b b' : Bool} {a : Mo} (h : ZS w W X Y s p b a) (r : RP X s b W W' p' b') : ZS w W' X Y s p' b' a :=
  ⟨r.x, r.le, (r.fr.block Y (lt_of h.y) (fun e => h.ne e.symm)).trans h.y, h.ne, h.fr.trans (r.fr.mono fun i _ e => .inl e)⟩
theorem ZS.at {w W : World} {X Y : Nat} {s : ByteArray} {p : Nat} {b : Bool} {a : Mo} (h : ZS w W X Y s p b a) (p' : Nat) (hp : p' ≤ s.size) : ZS w (W.setCell ⟨X, 1, none⟩ (.int .i64 (p' : Int))) X Y s p' b a :=
  ⟨h.x.at p', hp, (Below.heap_setCell _ _ _ _ (fun e => h.ne e.symm)).trans h.y, h.ne, h.fr.set (.inl (.inl rfl)) _⟩
theorem ZS.bad {w W : World} {X Y : Nat} {s : ByteArray} {p : Nat} {b : Bool} {a : Mo} (h : ZS w W X Y s p b a) : ZS w (W.setCell ⟨X, 2, none⟩ (.bool true)) X Y s p true a :=
  ⟨h.x.bad true, h.le, (Below.heap_setCell _ _ _ _ (fun e => h.ne e.symm)).trans h.y, h.ne, h.fr.set (.inl (.inl rfl)) _⟩
theorem ZS.setY {w W : World} {X Y : Nat} {s : ByteArray} {p : Nat} {b : Bool} {a a' : Mo} (h : ZS w W X Y s p b a) (i : Nat) (v : Value) (e : (moC a).setIfInBounds i v = moC a') : ZS w (W.setCell ⟨Y, i, none⟩ v) X Y s p b a' :=
  ⟨(Below.heap_setCell _ _ _ _ h.ne).trans h.x, h.le, by rw [← e]; exact bset h.y v, h.ne, h.fr.set (.inl (.inr rfl)) _⟩
theorem ZS.hz {w W : World} {X Y : Nat} {s : ByteArray} {p : Nat} {b : Bool} {a : Mo} (h : ZS w W X Y s p b a) (v : Bool) : ZS w (W.setCell ⟨Y, 6, none⟩ (.bool v)) X Y s p b { a with hz := v } := h.setY 6 _ rfl
theorem ZS.z {w W : World} {X Y : Nat} {s : ByteArray} {p : Nat} {b : Bool} {a : Mo} (h : ZS w W X Y s p b a) (v : Int) : ZS w (W.setCell ⟨Y, 7, none⟩ (.int .i64 v)) X Y s p b { a with z := v } := h.setY 7 _ rfl
theorem ZS.cells {w W : World} {X Y : Nat} {s : ByteArray} {p : Nat} {b : Bool} {a : Mo} (h : ZS w W X Y s p b a) : (W.cell? ⟨Y, 6, none⟩ = some (.bool a.hz) ∧ W.cell? ⟨Y, 7, none⟩ = some (.int .i64 a.z)) ∧ W.frozen? ⟨Y, 6, none⟩ = false ∧ W.frozen? ⟨Y, 7, none⟩ = false := by
  refine ⟨⟨?_, ?_⟩, ?_, ?_⟩ <;> simp [World.cell?, World.frozen?, h.y]
theorem ZS.ex {w W : World} {X Y : Nat} {s : ByteArray} {p : Nat} {b : Bool} {a : Mo} (h : ZS w W X Y s p b a) : ∃ W', W = W' ∧ ZS w W' X Y s p b a := ⟨W, rfl, h⟩
/-- What zone leaves. -/
def ZnV (o : Option (Bool × Int)) (s : ByteArray) (p' : Nat) (b' : Bool) (hz : Bool) (z : Int) : Prop :=
  (∀ x, o = some x → b' = false ∧ p' = s.size ∧ hz = x.1 ∧ z = x.2) ∧ (o = none → b' = true ∨ p' < s.size)
def ZnQ (X Y : Nat) (s : ByteArray) (p : Nat) (b : Bool) (a : Mo) (w : World) (e : Ending) (w' : World) : Prop :=
  ∃ (p' : Nat) (b' : Bool) (hz : Bool) (z : Int), e = .returned (.tuple #[]) ∧ ZS w w' X Y s p' b' { a with hz := hz, z := z } ∧ (b = true → b' = true) ∧ -10000 < z ∧ z < 10000 ∧ (b = false → ZnV (znB ((bl s).drop p)) s p' b' hz z)
def znS (neg : Bool) (l : List Int) : Option (Bool × Int) :=
  (inB 0 14 l).bind fun h => (tkB 58 h.2).bind fun l1 => (inB 0 59 l1).bind fun n =>
    if (h.1 = 14 ∧ 0 < n.1) ∨ n.2 ≠ [] then none else some (true, if neg = true then -(60 * h.1 + n.1) else 60 * h.1 + n.1)
theorem zn_ch {s : ByteArray} {P p1 p2 p3 : Nat} {b1 b2 b3 b4 neg : Bool} {h n : Int} (le3 : p3 ≤ s.size)
    (k1 : StV (inB 0 14 ((bl s).drop P)) s p1 b1 h) (k2 : StT (tkB 58 ((bl s).drop p1)) s p2 b1 b2) (k3 : b2 = false → StV (inB 0 59 ((bl s).drop p2)) s p3 b3 n)
    (t2 : b1 = true → b2 = true) (t3 : b2 = true → b3 = true) (h4 : b4 = if h = 14 ∧ 0 < n then true else b3) :
    ZnV (znS neg ((bl s).drop P)) s p3 b4 true (if neg = true then -(60 * h + n) else 60 * h + n) := by
  have t4 : b3 = true → b4 = true := fun e => by rw [h4]; split <;> simp [e]
  unfold znS
  cases e1 : inB 0 14 ((bl s).drop P) with
  | none => exact ⟨fun x e => by simp at e, fun _ => .inl (t4 (t3 (t2 (k1.2 e1))))⟩
  | some x1 =>
  obtain ⟨rfl, rfl, hr1⟩ := k1.1 x1.1 x1.2 e1
  rw [Option.bind_some, hr1]
  cases e2 : tkB 58 ((bl s).drop p1) with
  | none => exact ⟨fun x e => by simp at e, fun _ => .inl (t4 (t3 (k2.2 e2)))⟩
  | some x2 =>
  obtain ⟨rfl, hr2⟩ := k2.1 x2 e2
  rw [Option.bind_some, hr2]
  cases e3 : inB 0 59 ((bl s).drop p2) with
  | none => exact ⟨fun x e => by simp at e, fun _ => .inl (t4 ((k3 rfl).2 e3))⟩
  | some x3 =>
  obtain ⟨rfl, rfl, hr3⟩ := (k3 rfl).1 x3.1 x3.2 e3
  rw [Option.bind_some, hr3, h4]
  have hemp : ((bl s).drop p3 ≠ []) ↔ p3 < s.size := by
    rw [Ne, List.drop_eq_nil_iff, bl_len]; omega
  by_cases c1 : x1.1 = 14 ∧ 0 < x3.1
  · rw [if_pos (.inl c1), if_pos c1]
    exact ⟨fun x e => by simp at e, fun _ => .inl rfl⟩
  · rw [if_neg c1]
    by_cases c2 : p3 < s.size
    · rw [if_pos (.inr (hemp.2 c2))]
      exact ⟨fun x e => by simp at e, fun _ => .inr c2⟩
    · rw [if_neg (fun q => q.elim c1 (fun q => c2 (hemp.1 q)))]
      refine ⟨fun x e => ?_, fun e => by simp at e⟩
      obtain rfl := Option.some.inj e
      exact ⟨rfl, by omega, rfl, rfl⟩
theorem zn_nil {s : ByteArray} {p : Nat} (h : s.size ≤ p) : znB ((bl s).drop p) = some (false, 0) := by
  rw [List.drop_eq_nil_of_le (by rw [bl_len]; exact h)]; rfl
theorem zn_Z {s : ByteArray} {p : Nat} (hp : p < s.size) (h : isB (bl s) p 90 = true) : znB ((bl s).drop p) = if s.size ≤ p + 1 then some (true, 0) else none := by
  have h90 : ((bl s).drop p).head? = some 90 := by unfold isB at h; simpa using h
  have hne : (bl s).drop p ≠ [] := by rw [Ne, List.drop_eq_nil_iff, bl_len]; omega
  unfold znB
  rw [if_neg hne, if_pos h90, List.tail_drop]
  by_cases c : s.size ≤ p + 1
  · rw [if_pos c, if_pos (by rw [List.drop_eq_nil_iff, bl_len]; omega)]
  · rw [if_neg c, if_neg (by rw [List.drop_eq_nil_iff, bl_len]; omega)]
theorem zn_S {s : ByteArray} {p : Nat} (hp : p < s.size) (h : isB (bl s) p 90 = false) (neg : Bool) (hn : isB (bl s) p 45 = neg) (hg : neg = true ∨ isB (bl s) p 43 = true) : znB ((bl s).drop p) = znS neg ((bl s).drop (p + 1)) := by
  have h90 : ((bl s).drop p).head? ≠ some 90 := by unfold isB at h; simpa using h
  have hne : (bl s).drop p ≠ [] := by rw [Ne, List.drop_eq_nil_iff, bl_len]; omega
  have h45 : (((bl s).drop p).head? = some 45) = (neg = true) := by unfold isB at hn; rw [← hn]; simp
  have h43 : (((bl s).drop p).head? = some 43) = (isB (bl s) p 43 = true) := by unfold isB; simp
  unfold znB znS
  rw [if_neg hne, if_neg h90, List.tail_drop]
  simp only [h45, h43]
  rw [if_pos hg]
theorem zn_no {s : ByteArray} {p : Nat} (hp : p < s.size) (h : isB (bl s) p 90 = false) (hn : isB (bl s) p 45 = false) (hg : isB (bl s) p 43 = false) : znB ((bl s).drop p) = none := by
  have h90 : ((bl s).drop p).head? ≠ some 90 := by unfold isB at h; simpa using h
  have hne : (bl s).drop p ≠ [] := by rw [Ne, List.drop_eq_nil_iff, bl_len]; omega
  have h45 : ((bl s).drop p).head? ≠ some 45 := by unfold isB at hn; simpa using hn
  have h43 : ((bl s).drop p).head? ≠ some 43 := by unfold isB at hg; simpa using hg
  unfold znB
  rw [if_neg hne, if_neg h90, if_neg (fun q => q.elim h45 h43)]
end Go.Proofs.Ytijcbgjlofcdfaa
