/- The second telling's ParseSpan: what stands in memory; the chain of its steps. -/
import Derived.Test.YtijcbgjlofcdfaaRr10
import Derived.Test.YtijcbgjlofcdfaaJ39
namespace Go.Proofs.Ytijcbgjlofcdfaa
open Go.RowKit
set_option linter.unusedVariables false

abbrev spK (a : Sp) : Array Value := #[.int .i64 a.o, .int .i64 a.s, .int .i64 a.n]
/-- The result's place, the reader. -/
structure S0 (w W : World) (s : ByteArray) (p : Nat) (b : Bool) : Prop where
  r : W.heap[w.heap.size]? = some (.cells (spK ⟨0, 0, 0⟩) 35 (0, 0))
  x : RdAt W (w.heap.size + 1) s p b
  le : p ≤ s.size
  hb : Below w.heap.size w W
theorem S0.init (w : World) (s : ByteArray) : S0 w ((w.alloc (.cells (spK ⟨0, 0, 0⟩) 35)).alloc (.cells #[.string s, .int .i64 0, .bool false] 60)) s 0 false := by
  obtain ⟨a, b, d⟩ := box2 w (.cells (spK ⟨0, 0, 0⟩) 35) (.cells #[.string s, .int .i64 0, .bool false] 60)
  exact ⟨a, b, Nat.zero_le _, d⟩
theorem S0.ex {w W : World} {s : ByteArray} {p : Nat} {b : Bool} (h : S0 w W s p b) : ∃ W', W = W' ∧ S0 w W' s p b := ⟨W, rfl, h⟩
theorem S0.rp {w W W' : World} {s : ByteArray} {p p' : Nat} {b b' : Bool} (h : S0 w W s p b) (r : RP (w.heap.size + 1) s b W W' p' b') : S0 w W' s p' b' :=
  ⟨(r.fr.block _ (lt_of h.r) (by omega)).trans h.r, r.x, r.le, h.hb.trans (r.fr.toBelow h.hb.size (by omega))⟩
theorem S0.drewN {w W : World} {s : ByteArray} {p : Nat} {b : Bool} (h : S0 w W s p b) (q : Nat) : S0 w (W.drewN q) s p b := ⟨h.r, h.x, h.le, bdrewN h.hb q⟩
theorem S0.at {w W : World} {s : ByteArray} {p : Nat} {b : Bool} (h : S0 w W s p b) (p' : Nat) (hp : p' ≤ s.size) : S0 w (W.setCell ⟨w.heap.size + 1, 1, none⟩ (.int .i64 (p' : Int))) s p' b :=
  ⟨(Below.heap_setCell _ _ _ _ (by simp)).trans h.r, h.x.at p', hp, h.hb.setCell (p := ⟨w.heap.size + 1, 1, none⟩) (by simp) _⟩
theorem S0.alloc {w W : World} {s : ByteArray} {p : Nat} {b : Bool} (h : S0 w W s p b) (o : Obj) : S0 w (W.alloc o) s p b := by
  have hb : Below W.heap.size W (W.alloc o) := (Below.refl _ _).alloc (Nat.le_refl _) o
  exact ⟨(hb.block _ (lt_of h.r)).trans h.r, (hb.block _ (lt_of h.x)).trans h.x, h.le, h.hb.trans (hb.mono h.hb.size)⟩
/-- And the span that is filled. -/
structure S1 (w W : World) (s : ByteArray) (p : Nat) (b : Bool) (Z : Nat) (a : Sp) : Prop where
  s : S0 w W s p b
  y : W.heap[Z]? = some (.cells (spK a) 35 (0, 0))
  hZ : w.heap.size + 1 < Z
theorem S1.mk' {w W : World} {s : ByteArray} {p : Nat} {b : Bool} (h : S0 w W s p b) (a : Sp) : S1 w (W.alloc (.cells (spK a) 35)) s p b W.heap.size a := ⟨h.alloc _, nw_heap _ _, lt_of h.x⟩
theorem S1.ex {w W : World} {s : ByteArray} {p : Nat} {b : Bool} {Z : Nat} {a : Sp} (h : S1 w W s p b Z a) : ∃ W', W = W' ∧ S1 w W' s p b Z a := ⟨W, rfl, h⟩
theorem S1.rp {w W W' : World} {s : ByteArray} {p p' : Nat} {b b' : Bool} {Z : Nat} {a : Sp} (h : S1 w W s p b Z a) (r : RP (w.heap.size + 1) s b W W' p' b') : S1 w W' s p' b' Z a :=
  ⟨h.s.rp r, (r.fr.block _ (lt_of h.y) (by have := h.hZ; omega)).trans h.y, h.hZ⟩
theorem S1.drewN {w W : World} {s : ByteArray} {p : Nat} {b : Bool} {Z : Nat} {a : Sp} (h : S1 w W s p b Z a) (q : Nat) : S1 w (W.drewN q) s p b Z a := ⟨h.s.drewN q, h.y, h.hZ⟩
theorem S1.at {w W : World} {s : ByteArray} {p : Nat} {b : Bool} {Z : Nat} {a : Sp} (h : S1 w W s p b Z a) (p' : Nat) (hp : p' ≤ s.size) : S1 w (W.setCell ⟨w.heap.size + 1, 1, none⟩ (.int .i64 (p' : Int))) s p' b Z a :=
  ⟨h.s.at p' hp, (Below.heap_setCell _ _ _ _ (by have := h.hZ; simp; omega)).trans h.y, h.hZ⟩
theorem S1.bad {w W : World} {s : ByteArray} {p : Nat} {b : Bool} {Z : Nat} {a : Sp} (h : S1 w W s p b Z a) : S1 w (W.setCell ⟨w.heap.size + 1, 2, none⟩ (.bool true)) s p true Z a :=
  ⟨⟨(Below.heap_setCell _ _ _ _ (by simp)).trans h.s.r, h.s.x.bad true, h.s.le, h.s.hb.setCell (p := ⟨w.heap.size + 1, 2, none⟩) (by simp) _⟩, (Below.heap_setCell _ _ _ _ (by have := h.hZ; simp; omega)).trans h.y, h.hZ⟩
theorem S1.setZ {w W : World} {s : ByteArray} {p : Nat} {b : Bool} {Z : Nat} {a a' : Sp} (h : S1 w W s p b Z a) (i : Nat) (v : Value) (e : (spK a).setIfInBounds i v = spK a') : S1 w (W.setCell ⟨Z, i, none⟩ v) s p b Z a' := by
  have hZ := h.hZ
  exact ⟨⟨(Below.heap_setCell _ _ _ _ (by simp; omega)).trans h.s.r, (Below.heap_setCell _ _ _ _ (by simp; omega)).trans h.s.x, h.s.le, h.s.hb.setCell (p := ⟨Z, i, none⟩) (by simp; omega) v⟩, by rw [← e]; exact bset h.y v, hZ⟩
theorem blk3f {U : World} {X : Nat} {a b c : Value} {t : TypeId} (hx : U.heap[X]? = some (.cells #[a, b, c] t (0, 0))) : U.frozen? ⟨X, 0, none⟩ = false ∧ U.frozen? ⟨X, 1, none⟩ = false ∧ U.frozen? ⟨X, 2, none⟩ = false := by
  refine ⟨?_, ?_, ?_⟩ <;> simp [World.frozen?, hx]
/-! The chain. -/
structure TmV {α : Type} (o : Option α) (s : ByteArray) (p' : Nat) (b' an : Bool) (x : α) : Prop where
  yes : ∀ t, o = some t → b' = false ∧ an = true ∧ p' = s.size ∧ t = x
  non : o = none → b' = true ∨ an = false ∨ p' < s.size
theorem TmV.stepV {α β : Type} {o : Option (β × List Int)} {K : β × List Int → Option α} {s : ByteArray} {p1 p' : Nat} {b1 b' an : Bool} {x : β} {v : α} (k : StV o s p1 b1 x) (t : b1 = true → b' = true) (h : b1 = false → TmV (K (x, (bl s).drop p1)) s p' b' an v) : TmV (o.bind K) s p' b' an v := by
  cases e : o with
  | none => exact ⟨fun y q => by simp at q, fun _ => .inl (t (k.2 e))⟩
  | some z =>
    obtain ⟨h1, h2, h3⟩ := k.1 z.1 z.2 e
    have := h h1
    rw [h2, ← h3] at this
    exact this
theorem TmV.stepT {α : Type} {o : Option (List Int)} {K : List Int → Option α} {s : ByteArray} {p1 p' : Nat} {b b1 b' an : Bool} {v : α} (hb : b = false) (k : StT o s p1 b b1) (t : b1 = true → b' = true) (h : b1 = false → TmV (K ((bl s).drop p1)) s p' b' an v) : TmV (o.bind K) s p' b' an v := by
  cases e : o with
  | none => exact ⟨fun y q => by simp at q, fun _ => .inl (t (k.2 e))⟩
  | some z =>
    obtain ⟨h1, h3⟩ := k.1 z e
    have := h (h1.trans hb)
    rw [← h3] at this
    exact this
theorem TmV.map {α β : Type} {o : Option β} {f : β → α} {s : ByteArray} {p' : Nat} {b' an : Bool} {x : β} (k : TmV o s p' b' an x) : TmV (o.map f) s p' b' an (f x) := by
  cases e : o with
  | none => exact ⟨fun y q => by simp at q, fun _ => k.non e⟩
  | some z =>
    obtain ⟨h1, h2, h3, h4⟩ := k.yes z e
    refine ⟨fun y q => ⟨h1, h2, h3, ?_⟩, fun q => by simp at q⟩
    rw [Option.map_some] at q
    obtain rfl := Option.some.inj q
    rw [h4]
theorem TmV.no {α : Type} {o : Option α} {s : ByteArray} {p' : Nat} {b' an : Bool} {v : α} (h : TmV o s p' b' an v) (k : b' = true ∨ an = false ∨ p' < s.size) : o = none := by
  cases e : o with
  | none => rfl
  | some x =>
    obtain ⟨h1, h2, h3, _⟩ := h.yes x e
    rcases k with k | k | k
    · rw [h1] at k; cases k
    · rw [h2] at k; cases k
    · omega
theorem TmV.ok {α : Type} {o : Option α} {s : ByteArray} {p' : Nat} {v : α} (h : TmV o s p' false true v) (k : ¬ p' < s.size) : o = some v := by
  cases e : o with
  | none => rcases h.non e with q | q | q
            · cases q
            · cases q
            · exact absurd q k
  | some x => rw [(h.yes x e).2.2.2]
theorem nil_iff {s : ByteArray} {p : Nat} (h : p ≤ s.size) : ((bl s).drop p = []) ↔ ¬ p < s.size := by rw [List.drop_eq_nil_iff, bl_len]; omega
theorem isB_head {s : ByteArray} {p : Nat} {c : Int} : (((bl s).drop p).head? = some c) ↔ isB (bl s) p c = true := by unfold isB; simp
/-- Seconds. -/
theorem sc_no {s : ByteArray} {p p' : Nat} {K : Nat} {x : Int × Int} (hK : dgs ((bl s).drop p) = K) (h : K < 1 ∨ 9 < K) : TmV (scB ((bl s).drop p)) s p' true true x := by
  unfold scB
  rw [hK, if_pos h]
  exact ⟨fun t e => by simp at e, fun _ => .inl rfl⟩
theorem sc_ok {s : ByteArray} {p p1 p2 : Nat} {K : Nat} {b1 b2 : Bool} {v f : Int} (le2 : p2 ≤ s.size) (hK : dgs ((bl s).drop p) = K) (h : ¬ (K < 1 ∨ 9 < K)) (hv : dvl (((bl s).drop p).take K) = v)
    (k1 : StV (frB ((bl s).drop (p + K))) s p1 b1 f) (k2 : StT (tkB 83 ((bl s).drop p1)) s p2 b1 b2) (t2 : b1 = true → b2 = true) : TmV (scB ((bl s).drop p)) s p2 b2 true (v, f) := by
  unfold scB
  rw [hK, if_neg h]
  have hn : nmB K ((bl s).drop p) = some (v, (bl s).drop (p + K)) := by
    unfold nmB
    rw [hK, if_neg (Nat.lt_irrefl _), hv, List.drop_drop]
  rw [hn, Option.bind_some]
  refine TmV.stepV k1 t2 (fun h1 => TmV.stepT h1 k2 (fun q => q) (fun h2 => ?_))
  by_cases c : p2 < s.size
  · rw [if_neg (fun q => (nil_iff le2).1 q c)]
    exact ⟨fun t e => by simp at e, fun _ => .inr (.inr c)⟩
  · rw [if_pos ((nil_iff le2).2 c)]
    exact ⟨fun t e => by obtain rfl := Option.some.inj e; exact ⟨h2, rfl, by omega, rfl⟩, fun e => by simp at e⟩
/-- What stands behind T. -/
theorem tm_ch {s : ByteArray} {P p5 p6 p9 : Nat} {b5 b6 b9 e f : Bool} {h m sec na : Int} (le6 : p6 ≤ s.size)
    (k5 : StV (ptB 72 ((bl s).drop P)) s p5 b5 (h, e)) (k6 : b5 = false → StV (ptB 77 ((bl s).drop p5)) s p6 b6 (m, f)) (t6 : b5 = true → b6 = true) (t9 : b6 = true → b9 = true)
    (kg : p6 < s.size → b6 = false → TmV (scB ((bl s).drop p6)) s p9 b9 true (sec, na)) (kn : ¬ p6 < s.size → p9 = p6 ∧ b9 = b6 ∧ sec = 0 ∧ na = 0) :
    TmV (tmB ((bl s).drop P)) s p9 (if (!e && !f && !(decide (p6 < s.size))) = true then true else b9) true (3600 * h + 60 * m + sec, na) := by
  generalize hB : (if (!e && !f && !(decide (p6 < s.size))) = true then true else b9) = b10
  have t10 : b9 = true → b10 = true := fun q => by rw [← hB]; split <;> simp [q]
  unfold tmB
  refine TmV.stepV k5 (fun q => t10 (t9 (t6 q))) (fun h5 => TmV.stepV (k6 h5) (fun q => t10 (t9 q)) (fun h6 => ?_))
  dsimp only
  by_cases c : p6 < s.size
  · rw [if_neg (fun q => (nil_iff le6).1 q c)]
    have e10 : b10 = b9 := by rw [← hB, decide_eq_true c]; simp
    rw [e10]
    have := TmV.map (f := fun x : Int × Int => (3600 * h + 60 * m + x.1, x.2)) (kg c h6)
    exact this
  · rw [if_pos ((nil_iff le6).2 c)]
    obtain ⟨rfl, rfl, rfl, rfl⟩ := kn c
    rw [decide_eq_false c] at hB
    cases e <;> cases f
    · have e10 : b10 = true := by rw [← hB]; rfl
      exact ⟨fun t q => by simp at q, fun _ => .inl e10⟩
    all_goals
      have e10 : b10 = false := by rw [← hB, h6]; rfl
      refine ⟨fun t q => ?_, fun q => by simp at q⟩
      simp at q
      subst q
      exact ⟨e10, rfl, by omega, by simp⟩
abbrev sgn (neg : Bool) (a : Sp) : Sp := if neg = true then ⟨-a.o, -a.s, -a.n⟩ else a
theorem ps_ch {s : ByteArray} {p0 p1 p2 p3 p4 p' : Nat} {neg b1 b2 b3 b4 b' an ya oa da : Bool} {y o d : Int} {t : Int × Int}
    (hneg : isB (bl s) 0 45 = neg) (hp0 : p0 = if neg = true then 1 else 0) (k0 : StT (tkB 80 ((bl s).drop p0)) s p1 false b1) (k1 : b1 = false → StV (ptB 89 ((bl s).drop p1)) s p2 b2 (y, ya)) (k2 : b2 = false → StV (ptB 77 ((bl s).drop p2)) s p3 b3 (o, oa)) (k3 : b3 = false → StV (ptB 68 ((bl s).drop p3)) s p4 b4 (d, da))
    (t1 : b1 = true → b2 = true) (t2 : b2 = true → b3 = true) (t3 : b3 = true → b4 = true) (t4 : b4 = true → b' = true)
    (h : b4 = false → TmV (if ((bl s).drop p4).head? = some 84 then tmB ((bl s).drop p4).tail else if (bl s).drop p4 = [] ∧ (ya || oa || da) = true then some (0, 0) else none) s p' b' an t) :
    TmV (prP (bl s)) s p' b' an (sgn neg ⟨12 * y + o, 86400 * d + t.1, t.2⟩) := by
  have hh : ((bl s).head? = some 45) = (neg = true) := by
    have := isB_head (s := s) (p := 0) (c := 45)
    rw [List.drop_zero] at this
    rw [← hneg]
    exact propext this
  have hd : (if neg = true then (bl s).tail else bl s) = (bl s).drop p0 := by
    rw [hp0]
    cases neg
    · rfl
    · rw [if_pos rfl, if_pos rfl, List.drop_one]
  unfold prP
  simp only [hh]
  rw [hd]
  refine TmV.stepT rfl k0 (fun q => t4 (t3 (t2 (t1 q)))) (fun h1 => TmV.stepV (k1 h1) (fun q => t4 (t3 (t2 q))) (fun h2 => TmV.stepV (k2 h2) (fun q => t4 (t3 q)) (fun h3 => TmV.stepV (k3 h3) t4 (fun h4 => ?_))))
  have := TmV.map (f := fun t : Int × Int => if neg = true then (⟨-(12 * y + o), -(86400 * d + t.1), -t.2⟩ : Sp) else ⟨12 * y + o, 86400 * d + t.1, t.2⟩) (h h4)
  exact this
theorem ps_noT {s : ByteArray} {p4 : Nat} {b4 an : Bool} (le : p4 ≤ s.size) (h4 : b4 = false) (hT : isB (bl s) p4 84 = false) : TmV (if ((bl s).drop p4).head? = some 84 then tmB ((bl s).drop p4).tail else if (bl s).drop p4 = [] ∧ an = true then some (0, 0) else none) s p4 b4 an (0, 0) := by
  rw [if_neg (by rw [isB_head, hT]; simp)]
  by_cases c : p4 < s.size
  · rw [if_neg (fun q => (nil_iff le).1 q.1 c)]
    exact ⟨fun t q => by simp at q, fun _ => .inr (.inr c)⟩
  · cases an
    · rw [if_neg (by simp)]
      exact ⟨fun t q => by simp at q, fun _ => .inr (.inl rfl)⟩
    · rw [if_pos ⟨(nil_iff le).2 c, rfl⟩]
      exact ⟨fun t q => by obtain rfl := Option.some.inj q; exact ⟨h4, rfl, by omega, rfl⟩, fun q => by simp at q⟩
theorem ps_T {s : ByteArray} {p4 : Nat} {an : Bool} (hT : isB (bl s) p4 84 = true) : (if ((bl s).drop p4).head? = some 84 then tmB ((bl s).drop p4).tail else if (bl s).drop p4 = [] ∧ an = true then some (0, 0) else none) = tmB ((bl s).drop (p4 + 1)) := by
  rw [if_pos (isB_head.2 hT), List.tail_drop]
/-- What ParseSpan answers. -/
def PsQ (o : Option Sp) (w : World) (e : Ending) (w' : World) : Prop := e = .returned (.tuple #[spV (o.getD sp0), .int .i64 (if o.isSome then 0 else 2)]) ∧ Below w.heap.size w w'
theorem PsQ.no {o : Option Sp} {w w' : World} (h : o = none) (hb : Below w.heap.size w w') : PsQ o w (.returned (.tuple #[spV sp0, .int .i64 2])) w' := by subst h; exact ⟨rfl, hb⟩
theorem PsQ.yes {o : Option Sp} {v : Sp} {w w' : World} (h : o = some v) (hb : Below w.heap.size w w') : PsQ o w (.returned (.tuple #[spV v, .int .i64 0])) w' := by subst h; exact ⟨rfl, hb⟩
end Go.Proofs.Ytijcbgjlofcdfaa
