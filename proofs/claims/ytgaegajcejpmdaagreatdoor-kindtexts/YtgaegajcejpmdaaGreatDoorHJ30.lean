/- Joined: HDtPs0, HDtPs1, HDtPr0, HDtPr8, HDtPr1, HDtPr2, HDtPr3, HDtPr4, HDtPr5, HDtPr6, HDtPr7. -/
import Derived.Test.YtgaegajcejpmdaaGreatDoorHJ24
import Derived.Test.YtgaegajcejpmdaaGreatDoorHJ21
import Derived.Deep.CutRange
namespace Go.Proofs.YtgaegajcejpmdaaGreatDoor.Dt
open Go.RowKit
set_option linter.unusedVariables false

abbrev spK (a : Sp) : Array Value := #[.int .i64 a.o, .int .i64 a.s, .int .i64 a.n]
/-- The result's place, the reader. -/
structure S0 (w W : World) (s : ByteArray) (p : Nat) (b : Bool) : Prop where
  r : W.heap[w.heap.size]? = some (.cells (spK ⟨0, 0, 0⟩) 45 (0, 0))
  x : RdAt W (w.heap.size + 1) s p b
  le : p ≤ s.size
  hb : Below w.heap.size w W
theorem S0.init (w : World) (s : ByteArray) : S0 w ((w.alloc (.cells (spK ⟨0, 0, 0⟩) 45)).alloc (.cells #[.string s, .int .i64 0, .bool false] 103)) s 0 false := by
  obtain ⟨a, b, d⟩ := box2 w (.cells (spK ⟨0, 0, 0⟩) 45) (.cells #[.string s, .int .i64 0, .bool false] 103)
  exact ⟨a, b, Nat.zero_le _, d⟩
theorem S0.ex {w W : World} {s : ByteArray} {p : Nat} {b : Bool} (h : S0 w W s p b) : ∃ W', W = W' ∧ S0 w W' s p b := ⟨W, rfl, h⟩
theorem S0.rp {w W W' : World} {s : ByteArray} {p p' : Nat} {b b' : Bool} (h : S0 w W s p b) (r : RP (w.heap.size + 1) s b W W' p' b') : S0 w W' s p' b' :=
  ⟨(r.fr.block _ (lt_of h.r) (by omega)).trans h.r, r.x, r.le, h.hb.trans (r.fr.toBelow h.hb.size (by omega))⟩
theorem S0.drewN {w W : World} {s : ByteArray} {p : Nat} {b : Bool} (h : S0 w W s p b) (q : Nat) : S0 w (W.drewN q) s p b := ⟨h.r, h.x, h.le, bdrewN h.hb q⟩
theorem S0.at {w W : World} {s : ByteArray} {p : Nat} {b : Bool} (h : S0 w W s p b) (p' : Nat) (hp : p' ≤ s.size) : S0 w (W.setCell ⟨w.heap.size + 1, 1, none⟩ (.int .i64 (p' : Int))) s p' b :=
  ⟨(Below.heap_setCell _ _ _ _ (by simp)).trans h.r, h.x.at p', hp, h.hb.setCell (p := ⟨w.heap.size + 1, 1, none⟩) (by simp) _⟩
theorem S0.alloc {w W : World} {s : ByteArray} {p : Nat} {b : Bool} (h : S0 w W s p b) (o : Obj) : S0 w (W.alloc o) s p b := by
  have hb : Below W.heap.size W (W.alloc o) := (Below.refl _ _).alloc (Nat.le_refl _) o
  exact ⟨(hb.block _ (lt_of h.r)).trans h.r, (hb.block _ (lt_of h.x)).trans h.x, h.le, h.hb.trans (hb.mono h.hb.size)⟩
/-- And the span that is filled. -/
structure S1 (w W : World) (s : ByteArray) (p : Nat) (b : Bool) (Z : Nat) (a : Sp) : Prop where
  s : S0 w W s p b
  y : W.heap[Z]? = some (.cells (spK a) 45 (0, 0))
  hZ : w.heap.size + 1 < Z
theorem S1.mk' {w W : World} {s : ByteArray} {p : Nat} {b : Bool} (h : S0 w W s p b) (a : Sp) : S1 w (W.alloc (.cells (spK a) 45)) s p b W.heap.size a := ⟨h.alloc _, nw_heap _ _, lt_of h.x⟩
theorem S1.ex {w W : World} {s : ByteArray} {p : Nat} {b : Bool} {Z : Nat} {a : Sp} (h : S1 w W s p b Z a) : ∃ W', W = W' ∧ S1 w W' s p b Z a := ⟨W, rfl, h⟩
theorem S1.rp {w W W' : World} {s : ByteArray} {p p' : Nat} {b b' : Bool} {Z : Nat} {a : Sp} (h : S1 w W s p b Z a) (r : RP (w.heap.size + 1) s b W W' p' b') : S1 w W' s p' b' Z a :=
  ⟨h.s.rp r, (r.fr.block _ (lt_of h.y) (by have := h.hZ; omega)).trans h.y, h.hZ⟩
theorem S1.drewN {w W : World} {s : ByteArray} {p : Nat} {b : Bool} {Z : Nat} {a : Sp} (h : S1 w W s p b Z a) (q : Nat) : S1 w (W.drewN q) s p b Z a := ⟨h.s.drewN q, h.y, h.hZ⟩
theorem S1.at {w W : World} {s : ByteArray} {p : Nat} {b : Bool} {Z : Nat} {a : Sp} (h : S1 w W s p b Z a) (p' : Nat) (hp : p' ≤ s.size) : S1 w (W.setCell ⟨w.heap.size + 1, 1, none⟩ (.int .i64 (p' : Int))) s p' b Z a :=
  ⟨h.s.at p' hp, (Below.heap_setCell _ _ _ _ (by have := h.hZ; simp; omega)).trans h.y, h.hZ⟩
theorem S1.bad {w W : World} {s : ByteArray} {p : Nat} {b : Bool} {Z : Nat} {a : Sp} (h : S1 w W s p b Z a) : S1 w (W.setCell ⟨w.heap.size + 1, 2, none⟩ (.bool true)) s p true Z a :=
  ⟨⟨(Below.heap_setCell _ _ _ _ (by simp)).trans h.s.r, h.s.x.bad true, h.s.le, h.s.hb.setCell (p := ⟨w.heap.size + 1, 2, none⟩) (by simp) _⟩, (Below.heap_setCell _ _ _ _ (by have := h.hZ; simp; omega)).trans h.y, h.hZ⟩
theorem S1.setZ {w W : World} {s : ByteArray} {p : Nat} {b : Bool} {Z : Nat} {a a' : Sp} (h : S1 w W s p b Z a) (i : Nat) (v : Value) (e : (spK a).setIfInBounds i v = spK a') : S1 w (W.setCell ⟨Z, i, none⟩ v) s p b Z a' := by
  have hZ := h.hZ
  exact ⟨⟨(Below.heap_setCell _ _ _ _ (by simp; omega)).trans h.s.r, (Below.heap_setCell _ _ _ _ (by simp; omega)).trans h.s.x, h.s.le, h.s.hb.setCell (p := ⟨Z, i, none⟩) (by simp; omega) v⟩, by rw [← e]; exact bset h.y v, hZ⟩
theorem blk3f {U : World} {X : Nat} {a b c : Value} {t : TypeId} (hx : U.heap[X]? = some (.cells #[a, b, c] t (0, 0))) : U.frozen? ⟨X, 0, none⟩ = false ∧ U.frozen? ⟨X, 1, none⟩ = false ∧ U.frozen? ⟨X, 2, none⟩ = false := by
  refine ⟨?_, ?_, ?_⟩ <;> simp [World.frozen?, hx]
/-! The chain. -/
structure TmV {α : Type} (o : Option α) (s : ByteArray) (p' : Nat) (b' an : Bool) (x : α) : Prop where
  yes : ∀ t, o = some t → b' = false ∧ an = true ∧ p' = s.size ∧ t = x
  non : o = none → b' = true ∨ an = false ∨ p' < s.size
theorem TmV.stepV {α β : Type} {o : Option (β × List Int)} {K : β × List Int → Option α} {s : ByteArray} {p1 p' : Nat} {b1 b' an : Bool} {x : β} {v : α} (k : StV o s p1 b1 x) (t : b1 = true → b' = true) (h : b1 = false → TmV (K (x, (bl s).drop p1)) s p' b' an v) : TmV (o.bind K) s p' b' an v := by
  cases e : o with
  | none => exact ⟨fun y q => by simp at q, fun _ => .inl (t (k.2 e))⟩
  | some z =>
    obtain ⟨h1, h2, h3⟩ := k.1 z.1 z.2 e
    have := h h1
    rw [h2, ← h3] at this
    exact this
theorem TmV.stepT {α : Type} {o : Option (List Int)} {K : List Int → Option α} {s : ByteArray} {p1 p' : Nat} {b b1 b' an : Bool} {v : α} (hb : b = false) (k : StT o s p1 b b1) (t : b1 = true → b' = true) (h : b1 = false → TmV (K ((bl s).drop p1)) s p' b' an v) : TmV (o.bind K) s p' b' an v := by
  cases e : o with
  | none => exact ⟨fun y q => by simp at q, fun _ => .inl (t (k.2 e))⟩
  | some z =>
    obtain ⟨h1, h3⟩ := k.1 z e
    have := h (h1.trans hb)
    rw [← h3] at this
    exact this
theorem TmV.map {α β : Type} {o : Option β} {f : β → α} {s : ByteArray} {p' : Nat} {b' an : Bool} {x : β} (k : TmV o s p' b' an x) : TmV (o.map f) s p' b' an (f x) := by
  cases e : o with
  | none => exact ⟨fun y q => by simp at q, fun _ => k.non e⟩
  | some z =>
    obtain ⟨h1, h2, h3, h4⟩ := k.yes z e
    refine ⟨fun y q => ⟨h1, h2, h3, ?_⟩, fun q => by simp at q⟩
    rw [Option.map_some] at q
    obtain rfl := Option.some.inj q
    rw [h4]
theorem TmV.no {α : Type} {o : Option α} {s : ByteArray} {p' : Nat} {b' an : Bool} {v : α} (h : TmV o s p' b' an v) (k : b' = true ∨ an = false ∨ p' < s.size) : o = none := by
  cases e : o with
  | none => rfl
  | some x =>
    obtain ⟨h1, h2, h3, _⟩ := h.yes x e
    rcases k with k | k | k
    · rw [h1] at k; cases k
    · rw [h2] at k; cases k
    · omega
theorem TmV.ok {α : Type} {o : Option α} {s : ByteArray} {p' : Nat} {v : α} (h : TmV o s p' false true v) (k : ¬ p' < s.size) : o = some v := by
  cases e : o with
  | none => rcases h.non e with q | q | q
            · cases q
            · cases q
            · exact absurd q k
  | some x => rw [(h.yes x e).2.2.2]
theorem nil_iff {s : ByteArray} {p : Nat} (h : p ≤ s.size) : ((bl s).drop p = []) ↔ ¬ p < s.size := by rw [List.drop_eq_nil_iff, bl_len]; omega
theorem isB_head {s : ByteArray} {p : Nat} {c : Int} : (((bl s).drop p).head? = some c) ↔ isB (bl s) p c = true := by unfold isB; simp
/-- Seconds. -/
theorem sc_no {s : ByteArray} {p p' : Nat} {K : Nat} {x : Int × Int} (hK : dgs ((bl s).drop p) = K) (h : K < 1 ∨ 9 < K) : TmV (scB ((bl s).drop p)) s p' true true x := by
  unfold scB
  rw [hK, if_pos h]
  exact ⟨fun t e => by simp at e, fun _ => .inl rfl⟩
theorem sc_ok {s : ByteArray} {p p1 p2 : Nat} {K : Nat} {b1 b2 : Bool} {v f : Int} (le2 : p2 ≤ s.size) (hK : dgs ((bl s).drop p) = K) (h : ¬ (K < 1 ∨ 9 < K)) (hv : dvl (((bl s).drop p).take K) = v)
    (k1 : StV (frB ((bl s).drop (p + K))) s p1 b1 f) (k2 : StT (tkB 83 ((bl s).drop p1)) s p2 b1 b2) (t2 : b1 = true → b2 = true) : TmV (scB ((bl s).drop p)) s p2 b2 true (v, f) := by
  unfold scB
  rw [hK, if_neg h]
  have hn : nmB K ((bl s).drop p) = some (v, (bl s).drop (p + K)) := by
    unfold nmB
    rw [hK, if_neg (Nat.lt_irrefl _), hv, List.drop_drop]
  rw [hn, Option.bind_some]
  refine TmV.stepV k1 t2 (fun h1 => TmV.stepT h1 k2 (fun q => q) (fun h2 => ?_))
  by_cases c : p2 < s.size
  · rw [if_neg (fun q => (nil_iff le2).1 q c)]
    exact ⟨fun t e => by simp at e, fun _ => .inr (.inr c)⟩
  · rw [if_pos ((nil_iff le2).2 c)]
    exact ⟨fun t e => by obtain rfl := Option.some.inj e; exact ⟨h2, rfl, by omega, rfl⟩, fun e => by simp at e⟩
/-- What stands behind T. -/
theorem tm_ch {s : ByteArray} {P p5 p6 p9 : Nat} {b5 b6 b9 e f : Bool} {h m sec na : Int} (le6 : p6 ≤ s.size)
    (k5 : StV (ptB 72 ((bl s).drop P)) s p5 b5 (h, e)) (k6 : b5 = false → StV (ptB 77 ((bl s).drop p5)) s p6 b6 (m, f)) (t6 : b5 = true → b6 = true) (t9 : b6 = true → b9 = true)
    (kg : p6 < s.size → b6 = false → TmV (scB ((bl s).drop p6)) s p9 b9 true (sec, na)) (kn : ¬ p6 < s.size → p9 = p6 ∧ b9 = b6 ∧ sec = 0 ∧ na = 0) :
    TmV (tmB ((bl s).drop P)) s p9 (if (!e && !f && !(decide (p6 < s.size))) = true then true else b9) true (3600 * h + 60 * m + sec, na) := by
  generalize hB : (if (!e && !f && !(decide (p6 < s.size))) = true then true else b9) = b10
  have t10 : b9 = true → b10 = true := fun q => by rw [← hB]; split <;> simp [q]
  unfold tmB
  refine TmV.stepV k5 (fun q => t10 (t9 (t6 q))) (fun h5 => TmV.stepV (k6 h5) (fun q => t10 (t9 q)) (fun h6 => ?_))
  dsimp only
  by_cases c : p6 < s.size
  · rw [if_neg (fun q => (nil_iff le6).1 q c)]
    have e10 : b10 = b9 := by rw [← hB, decide_eq_true c]; simp
    rw [e10]
    have := TmV.map (f := fun x : Int × Int => (3600 * h + 60 * m + x.1, x.2)) (kg c h6)
    exact this
  · rw [if_pos ((nil_iff le6).2 c)]
    obtain ⟨rfl, rfl, rfl, rfl⟩ := kn c
    rw [decide_eq_false c] at hB
    cases e <;> cases f
    · have e10 : b10 = true := by rw [← hB]; rfl
      exact ⟨fun t q => by simp at q, fun _ => .inl e10⟩
    all_goals
      have e10 : b10 = false := by rw [← hB, h6]; rfl
      refine ⟨fun t q => ?_, fun q => by simp at q⟩
      simp at q
      subst q
      exact ⟨e10, rfl, by omega, by simp⟩
abbrev sgn (neg : Bool) (a : Sp) : Sp := if neg = true then ⟨-a.o, -a.s, -a.n⟩ else a
theorem ps_ch {s : ByteArray} {p0 p1 p2 p3 p4 p' : Nat} {neg b1 b2 b3 b4 b' an ya oa da : Bool} {y o d : Int} {t : Int × Int}
    (hneg : isB (bl s) 0 45 = neg) (hp0 : p0 = if neg = true then 1 else 0) (k0 : StT (tkB 80 ((bl s).drop p0)) s p1 false b1) (k1 : b1 = false → StV (ptB 89 ((bl s).drop p1)) s p2 b2 (y, ya)) (k2 : b2 = false → StV (ptB 77 ((bl s).drop p2)) s p3 b3 (o, oa)) (k3 : b3 = false → StV (ptB 68 ((bl s).drop p3)) s p4 b4 (d, da))
    (t1 : b1 = true → b2 = true) (t2 : b2 = true → b3 = true) (t3 : b3 = true → b4 = true) (t4 : b4 = true → b' = true)
    (h : b4 = false → TmV (if ((bl s).drop p4).head? = some 84 then tmB ((bl s).drop p4).tail else if (bl s).drop p4 = [] ∧ (ya || oa || da) = true then some (0, 0) else none) s p' b' an t) :
    TmV (prP (bl s)) s p' b' an (sgn neg ⟨12 * y + o, 86400 * d + t.1, t.2⟩) := by
  have hh : ((bl s).head? = some 45) = (neg = true) := by
    have := isB_head (s := s) (p := 0) (c := 45)
    rw [List.drop_zero] at this
    rw [← hneg]
    exact propext this
  have hd : (if neg = true then (bl s).tail else bl s) = (bl s).drop p0 := by
    rw [hp0]
    cases neg
    · rfl
    · rw [if_pos rfl, if_pos rfl, List.drop_one]
  unfold prP
  simp only [hh]
  rw [hd]
  refine TmV.stepT rfl k0 (fun q => t4 (t3 (t2 (t1 q)))) (fun h1 => TmV.stepV (k1 h1) (fun q => t4 (t3 (t2 q))) (fun h2 => TmV.stepV (k2 h2) (fun q => t4 (t3 q)) (fun h3 => TmV.stepV (k3 h3) t4 (fun h4 => ?_))))
  have := TmV.map (f := fun t : Int × Int => if neg = true then (⟨-(12 * y + o), -(86400 * d + t.1), -t.2⟩ : Sp) else ⟨12 * y + o, 86400 * d + t.1, t.2⟩) (h h4)
  exact this
theorem ps_noT {s : ByteArray} {p4 : Nat} {b4 an : Bool} (le : p4 ≤ s.size) (h4 : b4 = false) (hT : isB (bl s) p4 84 = false) : TmV (if ((bl s).drop p4).head? = some 84 then tmB ((bl s).drop p4).tail else if (bl s).drop p4 = [] ∧ an = true then some (0, 0) else none) s p4 b4 an (0, 0) := by
  rw [if_neg (by rw [isB_head, hT]; simp)]
  by_cases c : p4 < s.size
  · rw [if_neg (fun q => (nil_iff le).1 q.1 c)]
    exact ⟨fun t q => by simp at q, fun _ => .inr (.inr c)⟩
  · cases an
    · rw [if_neg (by simp)]
      exact ⟨fun t q => by simp at q, fun _ => .inr (.inl rfl)⟩
    · rw [if_pos ⟨(nil_iff le).2 c, rfl⟩]
      exact ⟨fun t q => by obtain rfl := Option.some.inj q; exact ⟨h4, rfl, by omega, rfl⟩, fun q => by simp at q⟩
theorem ps_T {s : ByteArray} {p4 : Nat} {an : Bool} (hT : isB (bl s) p4 84 = true) : (if ((bl s).drop p4).head? = some 84 then tmB ((bl s).drop p4).tail else if (bl s).drop p4 = [] ∧ an = true then some (0, 0) else none) = tmB ((bl s).drop (p4 + 1)) := by
  rw [if_pos (isB_head.2 hT), List.tail_drop]
/-- What ParseSpan answers. -/
def PsQ (o : Option Sp) (w : World) (e : Ending) (w' : World) : Prop := e = .returned (.tuple #[spV (o.getD sp0), .int .i64 (if o.isSome then 0 else 2)]) ∧ Below w.heap.size w w'
theorem PsQ.no {o : Option Sp} {w w' : World} (h : o = none) (hb : Below w.heap.size w w') : PsQ o w (.returned (.tuple #[spV sp0, .int .i64 2])) w' := by subst h; exact ⟨rfl, hb⟩
theorem PsQ.yes {o : Option Sp} {v : Sp} {w w' : World} (h : o = some v) (hb : Below w.heap.size w w') : PsQ o w (.returned (.tuple #[spV v, .int .i64 0])) w' := by subst h; exact ⟨rfl, hb⟩
end Go.Proofs.YtgaegajcejpmdaaGreatDoor.Dt
namespace Go.Proofs.YtgaegajcejpmdaaGreatDoor.Dt
open Go.RowKit
set_option linter.unusedVariables false

/-- Behind the seconds. -/
def Cg (w : World) (s : ByteArray) (Z : Nat) (M D : Int) (p6 : Nat) (b6 : Bool) (v19 : Value) (wx : World) : Prop :=
  ∃ (p9 : Nat) (b9 : Bool) (sec na : Int), v19 = .int .i64 sec ∧ S1 w wx s p9 b9 Z ⟨M, D, na⟩ ∧ 0 ≤ sec ∧ sec < 1000000000 ∧ 0 ≤ na ∧ na < 1000000000 ∧ (b6 = true → b9 = true) ∧
    (p6 < s.size → b6 = false → TmV (scB ((bl s).drop p6)) s p9 b9 true (sec, na)) ∧ (¬ p6 < s.size → p9 = p6 ∧ b9 = b6 ∧ sec = 0 ∧ na = 0)
/-- Behind the number. -/
def Cn (w : World) (s : ByteArray) (Z : Nat) (M D : Int) (p6 K : Nat) (b7 : Bool) (V : Int) (v19 : Value) (wx : World) : Prop :=
  ∃ (P12 : Nat) (sec : Int), v19 = .int .i64 sec ∧ S1 w wx s P12 b7 Z ⟨M, D, 0⟩ ∧ 0 ≤ sec ∧ sec < 1000000000 ∧ (b7 = false → P12 = p6 + K ∧ sec = V ∧ ¬ (K < 1 ∨ 9 < K))
/-- Behind T. -/
def Ct (w : World) (s : ByteArray) (Z : Nat) (M : Int) (neg : Bool) (v12 : Value) (wx : World) : Prop :=
  ∃ (pq : Nat) (bq an : Bool) (sc na : Int), v12 = .bool an ∧ S1 w wx s pq bq Z ⟨M, sc, na⟩ ∧ 0 ≤ sc ∧ sc < 1000000000000000 ∧ 0 ≤ na ∧ na < 1000000000 ∧ TmV (prP (bl s)) s pq bq an (sgn neg ⟨M, sc, na⟩)
set_option maxRecDepth 8000 in
set_option maxHeartbeats 4000000 in
theorem parseSpan_r (s : ByteArray) (w : World) (hs : s.size ≤ maxLen) : Calls Tryz.prog 44 #[.string s] w fun e w' => PsQ (prP (bl s)) w e w' := by
  have hnum := hs
  unfold maxLen at hnum
  go_enter Tryz.func44, Tryz.ntmps44
  go_upto_region 2 with fail
  obtain ⟨W0, hW0, HP0'⟩ := S0.ex (S0.init w s)
  rw [hW0]
  have q1 := is_r (w.heap.size + 1) s 0 false 45 W0 HP0'.x hs
  have hpl : isB (bl s) 0 45 = true → 0 < s.size := fun h => by
    rcases Nat.lt_or_ge 0 s.size with h1 | h1
    · exact h1
    · rw [isB_no h1] at h; exact absurd h (by simp)
  obtain ⟨neg, hneg⟩ : ∃ neg, isB (bl s) 0 45 = neg := ⟨_, rfl⟩
  rw [hneg] at q1 hpl
  have HP0 : Hid _ := And.intro HP0' (And.intro q1 (And.intro hneg hpl))
  clear hW0 HP0' q1 hneg hpl
  obtain ⟨p0, hp0⟩ : ∃ p0 : Nat, p0 = if neg = true then 1 else 0 := ⟨_, rfl⟩
  have HN : Hid _ := hp0
  clear hp0
  go_wp2_with fail
  refine Calls.mono HP0.out.2.1 ?_
  rintro e w1 ⟨rfl, q, rfl⟩
  go_upto_if 26 with fail
  go_cut [] from 27 to 33 (fun wx => S0 w wx s p0 false)
  case first =>
    obtain ⟨g0, g1, g2, f0, f1, f2⟩ := (S0.drewN HP0.out.1 q).x.cells
    cases neg
    · go_wp2_with fail
      go_meet
      case rel =>
        rw [HN.out]
        exact S0.drewN HP0.out.1 q
    · go_wp2_with fail
      go_meet
      case rel =>
        rw [HN.out]
        exact (S0.drewN HP0.out.1 q).at 1 (HP0.out.2.2.2 (by simp))
  case rest =>
    have H0 : Hid _ := hcut
    clear hcut
    go_wp2_with fail
    refine Calls.mono (take_r (w.heap.size + 1) s p0 false 80 _ H0.out.x hs H0.out.le) ?_
    rintro e w1 ⟨p1, b1, rfl, r1, k1⟩
    have H1 : Hid _ := And.intro (H0.out.rp r1) (And.intro r1.st k1)
    clear r1 k1
    go_wp2_with fail
    refine Calls.mono (part_r (w.heap.size + 1) s p1 b1 89 _ H1.out.1.x hs H1.out.1.le) ?_
    rintro e w2 ⟨p2, b2, y, ya, rfl, r2, y0, y1, k2⟩
    have H2 : Hid _ := And.intro (H1.out.1.rp r2) (And.intro r2.st k2)
    clear r2 k2
    go_wp2_with fail
    refine Calls.mono (part_r (w.heap.size + 1) s p2 b2 77 _ H2.out.1.x hs H2.out.1.le) ?_
    rintro e w3 ⟨p3, b3, o, oa, rfl, r3, o0, o1, k3⟩
    have H3 : Hid _ := And.intro (H2.out.1.rp r3) (And.intro r3.st k3)
    clear r3 k3
    go_wp2_with fail
    refine Calls.mono (part_r (w.heap.size + 1) s p3 b3 68 _ H3.out.1.x hs H3.out.1.le) ?_
    rintro e w4 ⟨p4, b4, d, da, rfl, r4, d0, d1, k4⟩
    have H4 : Hid _ := And.intro (H3.out.1.rp r4) (And.intro r4.st k4)
    clear r4 k4
    go_upto_region 9 with fail
    go_cut [12] from 51 to 57 (fun v wx => v = .bool (ya || oa || da) ∧ wx = w4)
    case first =>
      cases ya <;> cases oa <;> cases da
      all_goals
        go_wp2_with fail
        go_meet
        case rel => exact ⟨rfl, rfl⟩
    case rest =>
      obtain ⟨rfl, hw⟩ := hcut
      have hw' := hw.symm
      clear hw
      subst hw'
      generalize hAN : (ya || oa || da) = an0
      have HAN : Hid _ := hAN
      clear hAN
      go_upto_region 11 with fail
      obtain ⟨W5, hW5, HS'⟩ := S1.ex (S1.mk' H4.out.1 ⟨12 * y + o, 86400 * d, 0⟩)
      rw [hW5]
      obtain ⟨Z, hZ⟩ : ∃ Z, w4.heap.size = Z := ⟨_, rfl⟩
      rw [hZ] at HS' ⊢
      have hCH : ∀ p' b' an t, (b4 = true → b' = true) → (b4 = false → TmV (if ((bl s).drop p4).head? = some 84 then tmB ((bl s).drop p4).tail else if (bl s).drop p4 = [] ∧ an0 = true then some (0, 0) else none) s p' b' an t) → TmV (prP (bl s)) s p' b' an (sgn neg ⟨12 * y + o, 86400 * d + t.1, t.2⟩) := fun p' b' an t t4 h => by
        have := HAN.out
        subst this
        exact ps_ch HP0.out.2.2.1 HN.out H1.out.2.2 H2.out.2.2 H3.out.2.2 H4.out.2.2 H2.out.2.1 H3.out.2.1 H4.out.2.1 t4 h
      obtain ⟨M, hM⟩ : ∃ M, 12 * y + o = M := ⟨_, rfl⟩
      obtain ⟨D, hD⟩ : ∃ D, 86400 * d = D := ⟨_, rfl⟩
      rw [hM, hD] at HS'
      simp only [hM, hD] at hCH
      have M0 : 0 ≤ M := by omega
      have M1 : M < 20000000000 := by omega
      have D0 : 0 ≤ D := by omega
      have D1 : D < 100000000000000 := by omega
      have q9 := is_r (w.heap.size + 1) s p4 b4 84 W5 HS'.s.x hs
      have hpl : isB (bl s) p4 84 = true → p4 < s.size := fun h => by
        rcases Nat.lt_or_ge p4 s.size with h1 | h1
        · exact h1
        · rw [isB_no h1] at h; exact absurd h (by simp)
      obtain ⟨T, hT⟩ : ∃ T, isB (bl s) p4 84 = T := ⟨_, rfl⟩
      rw [hT] at q9 hpl
      have HS : Hid _ := And.intro HS' (And.intro q9 (And.intro hT (And.intro hpl hCH)))
      clear hW5 HS' hZ hM hD hCH q9 hT hpl HAN H0 H1 H2 H3 H4 HP0 HN
      obtain ⟨TT, hTT⟩ : ∃ TT, (!b4 && T) = TT := ⟨_, rfl⟩
      have HT2 : Hid _ := hTT
      clear hTT
      go_cut [73] from 65 to 72 (fun v wx => v = .bool TT ∧ S1 w wx s p4 b4 Z ⟨M, D, 0⟩)
      case first =>
        obtain ⟨g0, g1, g2, f0, f1, f2⟩ := HS.out.1.s.x.cells
        cases b4
        · go_wp2_with fail
          refine Calls.mono HS.out.2.1 ?_
          rintro e w1 ⟨rfl, q, rfl⟩
          go_wp2_with fail
          go_meet
          case rel => exact ⟨by rw [← HT2.out]; simp, S1.drewN HS.out.1 q⟩
        · go_wp2_with fail
          go_meet
          case rel => exact ⟨by rw [← HT2.out]; simp, HS.out.1⟩
      case rest =>
        obtain ⟨rfl, hS6⟩ := hcut
        have H6 : Hid _ := hS6
        clear hS6
        go_upto_if 73 with fail
        go_cut [12, 14, 15, 16, 17, 18, 19, 20] from 74 to 144 (fun v v14 v15 v16 v17 v18 v19 v20 wx => Ct w s Z M neg v wx)
        case first =>
          cases TT
          · go_wp2_with fail
            go_meet
            case rel =>
              have hx : TmV (prP (bl s)) s p4 b4 an0 (sgn neg ⟨M, D, 0⟩) := by
                have := HS.out.2.2.2.2 p4 b4 an0 (0, 0) (fun q => q) (fun h4 => ps_noT H6.out.s.le h4 (by have h5 := HT2.out; have h6 := HS.out.2.2.1; rw [h4] at h5; rw [h6]; simpa using h5))
                simp only [Int.add_zero] at this
                exact this
              exact ⟨p4, b4, an0, D, 0, rfl, H6.out, by omega, by omega, by omega, by omega, hx⟩
          · obtain ⟨h4, hT1⟩ : b4 = false ∧ T = true := by
              have h5 := HT2.out
              first
                | exact h5
                | (simp at h5; exact h5)
            · subst h4
              subst hT1
              have hle : p4 + 1 ≤ s.size := HS.out.2.2.2.1 (by simp)
              have hTT := ps_T (s := s) (p4 := p4) (an := an0) HS.out.2.2.1
              have HTT : Hid _ := hTT
              clear hTT
              obtain ⟨g0, g1, g2, f0, f1, f2⟩ := H6.out.s.x.cells
              go_upto_region 13 with fail
              obtain ⟨W7, hW7, H7'⟩ := S1.ex (S1.at H6.out (p4 + 1) hle)
              rw [show (((p4 + 1 : Nat) : Int)) = (p4 : Int) + 1 from rfl] at hW7
              rw [hW7]
              have H7 : Hid _ := H7'
              clear hW7 H7' g0 g1 g2 f0 f1 f2 H6
              go_wp2_with fail
              refine Calls.mono (part_r (w.heap.size + 1) s (p4 + 1) false 72 _ H7.out.s.x hs H7.out.s.le) ?_
              rintro e w8 ⟨p5, b5, hh, ee, rfl, r8, hh0, hh1, k8⟩
              have H8 : Hid _ := And.intro (H7.out.rp r8) (And.intro r8.st k8)
              clear r8 k8
              go_wp2_with fail
              refine Calls.mono (part_r (w.heap.size + 1) s p5 b5 77 _ H8.out.1.s.x hs H8.out.1.s.le) ?_
              rintro e w9 ⟨p6, b6, mm, ff, rfl, r9, mm0, mm1, k9⟩
              have H9 : Hid _ := And.intro (H8.out.1.rp r9) (And.intro r9.st k9)
              clear r9 k9
              go_upto_region 15 with fail
              obtain ⟨G, hG⟩ : ∃ G, decide (p6 < s.size) = G := ⟨_, rfl⟩
              have HG : Hid _ := hG
              clear hG
              go_cut [18] from 91 to 100 (fun v wx => v = .bool G ∧ S1 w wx s p6 b6 Z ⟨M, D, 0⟩)
              case first =>
                obtain ⟨g0, g1, g2, f0, f1, f2⟩ := H9.out.1.s.x.cells
                by_cases c : p6 < s.size
                · have d1 : decide ((p6 : Int) < (s.size : Int)) = true := by simp; omega
                  have hg : G = true := by rw [← HG.out]; simpa using c
                  subst hg
                  go_quiet (fail)
                  go_wp2_with fail
                  go_meet
                  case rel => exact ⟨rfl, S1.drewN H9.out.1 _⟩
                · have d1 : decide ((p6 : Int) < (s.size : Int)) = false := by simp; omega
                  have hg : G = false := by rw [← HG.out]; simpa using c
                  subst hg
                  go_quiet (fail)
                  go_wp2_with fail
                  go_meet
                  case rel => exact ⟨rfl, S1.drewN H9.out.1 _⟩
              case rest =>
                obtain ⟨rfl, hS10⟩ := hcut
                have H10 : Hid _ := hS10
                clear hS10
                go_upto_if 101 with fail
                go_cut [19, 20] from 102 to 120 (fun v v20 wx => Cg w s Z M D p6 b6 v wx)
                case first =>
                  cases G
                  · have hng : ¬ p6 < s.size := by have := HG.out; simpa using this
                    go_wp2_with fail
                    go_meet
                    case rel => exact ⟨p6, b6, 0, 0, rfl, H10.out, by omega, by omega, by omega, by omega, fun q => q, fun q => absurd q hng, fun _ => ⟨rfl, rfl, rfl, rfl⟩⟩
                  · have hlt : p6 < s.size := by have := HG.out; simpa using this
                    have q10 := digits_r (w.heap.size + 1) s p6 b6 _ H10.out.s.x hs H10.out.s.le
                    have hnok := fun (W' : World) (h : RdAt W' (w.heap.size + 1) s p6 false) (h9 : dgs ((bl s).drop p6) ≤ 9) => number_ok (w.heap.size + 1) s p6 (dgs ((bl s).drop p6)) W' h hs H10.out.s.le h9
                    unfold NmP at hnok
                    have hvb : dgs ((bl s).drop p6) ≤ 9 → 0 ≤ dvl (((bl s).drop p6).take (dgs ((bl s).drop p6))) ∧ dvl (((bl s).drop p6).take (dgs ((bl s).drop p6))) < 1000000000 := fun h => dvl_bd (Nat.le_refl _) h
                    have hKl := dgs_len ((bl s).drop p6)
                    rw [dr_len] at hKl
                    obtain ⟨V, hV⟩ : ∃ V, dvl (((bl s).drop p6).take (dgs ((bl s).drop p6))) = V := ⟨_, rfl⟩
                    rw [hV] at hnok hvb
                    obtain ⟨K, hK⟩ : ∃ K, dgs ((bl s).drop p6) = K := ⟨_, rfl⟩
                    rw [hK] at q10 hnok hvb hV hKl
                    have HQ : Hid _ := And.intro q10 (And.intro hnok (And.intro hK hV))
                    clear q10 hnok hK hV
                    go_wp2_with fail
                    refine Calls.mono HQ.out.1 ?_
                    rintro e w11 ⟨rfl, q11, rfl⟩
                    have H11 : Hid _ := S1.drewN H10.out q11
                    generalize World.drewN _ q11 = W11 at *
                    obtain ⟨g0, g1, g2, f0, f1, f2⟩ := H11.out.s.x.cells
                    obtain ⟨BK, hBK⟩ : ∃ BK, decide (K < 1 ∨ 9 < K) = BK := ⟨_, rfl⟩
                    have HBK : Hid _ := hBK
                    clear hBK
                    go_upto_region 19 with fail
                    go_cut [109] from 104 to 108 (fun v wx => v = .bool BK ∧ wx = W11)
                    case first =>
                      by_cases c1 : K < 1
                      · have d1 : decide ((K : Int) < 1) = true := by simp; omega
                        go_wp2_with fail
                        go_meet
                        case rel => exact ⟨by rw [← HBK.out, decide_eq_true (Or.inl c1)], rfl⟩
                      · have d1 : decide ((K : Int) < 1) = false := by simp; omega
                        by_cases c2 : 9 < K
                        · have d2 : decide (9 < (K : Int)) = true := by simp; omega
                          go_wp2_with fail
                          go_meet
                          case rel => exact ⟨by rw [← HBK.out, decide_eq_true (Or.inr c2)], rfl⟩
                        · have d2 : decide (9 < (K : Int)) = false := by simp; omega
                          go_wp2_with fail
                          go_meet
                          case rel => exact ⟨by rw [← HBK.out, decide_eq_false (by omega)], rfl⟩
                    case rest =>
                      obtain ⟨rfl, hw⟩ := hcut
                      have hw' := hw.symm
                      clear hw
                      subst hw'
                      obtain ⟨b7, hb7⟩ : ∃ b7, (BK || b6) = b7 := ⟨_, rfl⟩
                      have HB7 : Hid _ := hb7
                      clear hb7
                      go_upto_if 109 with fail
                      go_cut [] from 110 to 112 (fun wx => S1 w wx s p6 b7 Z ⟨M, D, 0⟩)
                      case first =>
                        cases BK
                        · go_wp2_with fail
                          go_meet
                          case rel =>
                            have : b6 = b7 := by have := HB7.out; simpa using this
                            rw [← this]
                            exact H11.out
                        · go_wp2_with fail
                          go_meet
                          case rel =>
                            have : true = b7 := by have := HB7.out; simpa using this
                            rw [← this]
                            exact S1.bad H11.out
                      case rest =>
                        have H12 : Hid _ := hcut
                        clear hcut g0 g1 g2 f0 f1 f2 H10
                        go_upto_region 21 with fail
                        go_cut [19] from 113 to 115 (fun v wx => Cn w s Z M D p6 K b7 V v wx)
                        case first =>
                          cases b7
                          · have hk9 : ¬ (K < 1 ∨ 9 < K) := by
                              have h7 := HB7.out
                              have h8 := HBK.out
                              cases BK
                              · simpa using h8
                              · simp at h7
                            go_wp2_with fail
                            refine Calls.mono (HQ.out.2.1 _ H12.out.s.x (by omega)) ?_
                            rintro e w12 (⟨hd, rfl, r12⟩ | ⟨hd, rfl, r12⟩)
                            · exact absurd hd (by omega)
                            have H13 : Hid _ := H12.out.rp r12
                            clear r12
                            obtain ⟨hV0, hV1⟩ := hvb (by omega)
                            go_wp2_with fail
                            go_meet
                            case rel => exact ⟨p6 + K, V, rfl, H13.out, hV0, hV1, fun _ => ⟨rfl, rfl, hk9⟩⟩
                          · go_wp2_with fail
                            refine Calls.mono (number_bad (w.heap.size + 1) s p6 (K : Int) _ H12.out.s.x H12.out.s.le) ?_
                            rintro e w12 ⟨rfl, r12⟩
                            have H13 : Hid _ := H12.out.rp r12
                            clear r12
                            go_wp2_with fail
                            go_meet
                            case rel => exact ⟨p6, 0, rfl, H13.out, by omega, by omega, fun q => by simp at q⟩
                        case rest =>
                          obtain ⟨P12, sec, rfl, hS12, sec0, sec1, hk12⟩ := hcut
                          have H12 : Hid _ := hS12
                          have HK12 : Hid _ := hk12
                          clear hS12 hk12
                          go_wp2_with fail
                          refine Calls.mono (fraction_r (w.heap.size + 1) s P12 b7 _ H12.out.s.x hs H12.out.s.le) ?_
                          rintro e w13 ⟨p13, b13, f, rfl, r13, f0, f1, k13⟩
                          have HF' : Hid _ := H12.out.rp r13
                          have HF : Hid _ := And.intro trivial (And.intro r13 k13)
                          obtain ⟨zf0, zf1, zf2⟩ := blk3f HF'.out.y
                          obtain ⟨z0', z1', z2'⟩ := blk3 HF'.out.y
                          clear r13 k13
                          go_upto_region 23 with fail
                          obtain ⟨W14, hW14, H14'⟩ := S1.ex (S1.setZ HF'.out 2 (.int .i64 f) (a' := ⟨M, D, f⟩) rfl)
                          rw [hW14]
                          have H14 : Hid _ := H14'
                          clear hW14 H14' HF' zf0 zf1 zf2 z0' z1' z2'
                          go_wp2_with fail
                          refine Calls.mono (take_r (w.heap.size + 1) s p13 b13 83 _ H14.out.s.x hs H14.out.s.le) ?_
                          rintro e w14 ⟨p14, b14, rfl, r14, k14⟩
                          have HZ : Hid _ := And.intro (H14.out.rp r14) (And.intro r14 k14)
                          clear r14 k14
                          go_wp2_with fail
                          go_meet
                          case rel =>
                            have hst : b6 = true → b14 = true := fun q => HZ.out.2.1.st (HF.out.2.1.st (by rw [← HB7.out, q]; simp))
                            have hx : b6 = false → TmV (scB ((bl s).drop p6)) s p14 b14 true (sec, f) := fun h6 => by
                              by_cases h7 : b7 = true
                              · have hb14 : b14 = true := HZ.out.2.1.st (HF.out.2.1.st h7)
                                rw [hb14]
                                refine sc_no HQ.out.2.2.1 ?_
                                have h8 := HB7.out
                                have h9 := HBK.out
                                rw [h6, h7] at h8
                                have hBt : BK = true := by simpa using h8
                                rw [hBt] at h9
                                simpa using h9
                              · have h7' : b7 = false := by simpa using h7
                                obtain ⟨hp, hv, hk9⟩ := HK12.out h7'
                                have hkf := HF.out.2.2 h7'
                                rw [hp] at hkf
                                rw [hv]
                                exact sc_ok HZ.out.2.1.le HQ.out.2.2.1 hk9 HQ.out.2.2.2 hkf HZ.out.2.2 HZ.out.2.1.st
                            exact ⟨p14, b14, sec, f, rfl, HZ.out.1, sec0, sec1, by omega, by omega, hst, fun _ h6 => hx h6, fun q => absurd hlt q⟩
                case rest =>
                  obtain ⟨p9, b9, sec, na, rfl, hS15, sec0, sec1, na0, na1, t9, kg, kn⟩ := hcut
                  have hch := tm_ch H9.out.1.s.le (H8.out.2.2 (by simp)) H9.out.2.2 H9.out.2.1 t9 kg kn
                  rw [HG.out] at hch
                  have hfin := fun b' hb' => HS.out.2.2.2.2 p9 b' true (3600 * hh + 60 * mm + sec, na) (fun q => by simp at q) (fun _ => by rw [HTT.out]; exact hb')
                  have H15 : Hid _ := And.intro hS15 (And.intro hch hfin)
                  clear hch hfin hS15 kg kn t9 H7 H8 H9 H10 HTT
                  obtain ⟨NB, hNB⟩ : ∃ NB, (!ee && !ff && !G) = NB := ⟨_, rfl⟩
                  have HNB : Hid _ := hNB
                  clear hNB
                  go_upto_region 24 with fail
                  go_cut [130] from 121 to 129 (fun v wx => v = .bool NB ∧ S1 w wx s p9 b9 Z ⟨M, D, na⟩)
                  case first =>
                    cases ee <;> cases ff <;> cases G
                    all_goals
                      go_wp2_with fail
                      go_meet
                      case rel => exact ⟨by rw [← HNB.out]; rfl, H15.out.1⟩
                  case rest =>
                    obtain ⟨rfl, hS16⟩ := hcut
                    have H16 : Hid _ := hS16
                    clear hS16
                    obtain ⟨b10, hb10⟩ : ∃ b10, (if NB = true then true else b9) = b10 := ⟨_, rfl⟩
                    have HB10 : Hid _ := hb10
                    clear hb10
                    go_upto_if 130 with fail
                    go_cut [] from 131 to 133 (fun wx => S1 w wx s p9 b10 Z ⟨M, D, na⟩)
                    case first =>
                      obtain ⟨g0, g1, g2, f0, f1, f2⟩ := H16.out.s.x.cells
                      cases NB
                      · go_wp2_with fail
                        go_meet
                        case rel =>
                          have : b9 = b10 := by have := HB10.out; simpa using this
                          rw [← this]
                          exact H16.out
                      · go_wp2_with fail
                        go_meet
                        case rel =>
                          have : true = b10 := by have := HB10.out; simpa using this
                          rw [← this]
                          exact S1.bad H16.out
                    case rest =>
                      have H17 : Hid _ := hcut
                      obtain ⟨z0', z1', z2'⟩ := blk3 hcut.y
                      obtain ⟨zf0, zf1, zf2⟩ := blk3f hcut.y
                      clear hcut H16
                      go_wp2_with fail
                      go_meet
                      case rel =>
                        have hq := H15.out.2.1
                        rw [HNB.out, HB10.out] at hq
                        have := H15.out.2.2 b10 hq
                        rw [show D + (3600 * hh + 60 * mm + sec, na).1 = D + 3600 * hh + 60 * mm + sec by simp only []; omega] at this
                        exact ⟨p9, b10, true, D + 3600 * hh + 60 * mm + sec, na, rfl, S1.setZ H17.out 1 _ rfl, by omega, by omega, na0, na1, this⟩
        case rest =>
          obtain ⟨pq, bq, an, sc, na, rfl, hS7, sc0, sc1, na0, na1, hF⟩ := hcut
          obtain ⟨g0, g1, g2, f0, f1, f2⟩ := hS7.s.x.cells
          obtain ⟨z0', z1', z2'⟩ := blk3 hS7.y
          obtain ⟨zf0, zf1, zf2⟩ := blk3f hS7.y
          obtain ⟨e0, e1, e2⟩ := blk3 hS7.s.r
          obtain ⟨i0, i1, i2⟩ := blk3f hS7.s.r
          have hZX := hS7.hZ
          have HF : Hid _ := And.intro hS7 hF
          clear hS7 hF HS H6
          cases bq
          · cases an
            · go_wp2_with fail
              go_quiet (fail)
              go_wp2_with fail
              obtain ⟨U, hU, hx, hb⟩ := put3 (X := w.heap.size) (S1.drewN HF.out.1 nq).s.hb (Nat.le_refl _) (S1.drewN HF.out.1 nq).s.r (.int .i64 0) (.int .i64 0) (.int .i64 0)
              rw [hU]
              obtain ⟨k0, k1, k2⟩ := blk3 hx
              exact bodyPost_ret (v := .tuple #[spV sp0, .int .i64 2]) (by simp [results, Tryz.results44, go_sem, k0, k1, k2]) rfl (PsQ.no (HF.out.2.no (.inr (.inl rfl))) hb)
            · by_cases hlt : pq < s.size
              · have d1 : decide ((pq : Int) < (s.size : Int)) = true := by simp; omega
                go_wp2_with fail
                go_quiet (fail)
                go_wp2_with fail
                obtain ⟨U, hU, hx, hb⟩ := put3 (X := w.heap.size) (S1.drewN HF.out.1 nq).s.hb (Nat.le_refl _) (S1.drewN HF.out.1 nq).s.r (.int .i64 0) (.int .i64 0) (.int .i64 0)
                rw [hU]
                obtain ⟨k0, k1, k2⟩ := blk3 hx
                exact bodyPost_ret (v := .tuple #[spV sp0, .int .i64 2]) (by simp [results, Tryz.results44, go_sem, k0, k1, k2]) rfl (PsQ.no (HF.out.2.no (.inr (.inr hlt))) hb)
              · have d1 : decide ((pq : Int) < (s.size : Int)) = false := by simp; omega
                go_wp2_with fail
                go_quiet (fail)
                cases neg
                · go_wp2_with fail
                  obtain ⟨U, hU, hx, hb⟩ := put3 (X := w.heap.size) (S1.drewN HF.out.1 nq).s.hb (Nat.le_refl _) (S1.drewN HF.out.1 nq).s.r (.int .i64 M) (.int .i64 sc) (.int .i64 na)
                  rw [hU]
                  obtain ⟨k0, k1, k2⟩ := blk3 hx
                  exact bodyPost_ret (v := .tuple #[spV ⟨M, sc, na⟩, .int .i64 0]) (by simp [results, Tryz.results44, go_sem, k0, k1, k2]) rfl (PsQ.yes (HF.out.2.ok hlt) hb)
                · go_upto_region 32 with fail
                  obtain ⟨U1, hU1, hx1, hb1⟩ := put3 (N := w.heap.size) (X := Z) (S1.drewN HF.out.1 nq).s.hb (by omega) (S1.drewN HF.out.1 nq).y (.int .i64 (-M)) (.int .i64 (-sc)) (.int .i64 (-na))
                  have xr : U1.heap[w.heap.size]? = some (.cells (spK ⟨0, 0, 0⟩) 45 (0, 0)) := by
                    rw [← hU1, Below.heap_setCell _ _ _ _ (by simp; omega), Below.heap_setCell _ _ _ _ (by simp; omega), Below.heap_setCell _ _ _ _ (by simp; omega)]
                    exact (S1.drewN HF.out.1 nq).s.r
                  rw [hU1]
                  clear hU1 g0 g1 g2 f0 f1 f2 z0' z1' z2' zf0 zf1 zf2 e0 e1 e2 i0 i1 i2
                  obtain ⟨z0', z1', z2'⟩ := blk3 hx1
                  obtain ⟨e0, e1, e2⟩ := blk3 xr
                  obtain ⟨i0, i1, i2⟩ := blk3f xr
                  have HU : Hid _ := And.intro hb1 xr
                  clear hb1 xr hx1
                  go_wp2_with fail
                  obtain ⟨U, hU, hx, hb⟩ := put3 (X := w.heap.size) HU.out.1 (Nat.le_refl _) HU.out.2 (.int .i64 (-M)) (.int .i64 (-sc)) (.int .i64 (-na))
                  rw [hU]
                  obtain ⟨k0, k1, k2⟩ := blk3 hx
                  exact bodyPost_ret (v := .tuple #[spV ⟨-M, -sc, -na⟩, .int .i64 0]) (by simp [results, Tryz.results44, go_sem, k0, k1, k2]) rfl (PsQ.yes (HF.out.2.ok hlt) hb)
          · go_wp2_with fail
            go_quiet (fail)
            go_wp2_with fail
            obtain ⟨U, hU, hx, hb⟩ := put3 (X := w.heap.size) (S1.drewN HF.out.1 nq).s.hb (Nat.le_refl _) (S1.drewN HF.out.1 nq).s.r (.int .i64 0) (.int .i64 0) (.int .i64 0)
            rw [hU]
            obtain ⟨k0, k1, k2⟩ := blk3 hx
            exact bodyPost_ret (v := .tuple #[spV sp0, .int .i64 2]) (by simp [results, Tryz.results44, go_sem, k0, k1, k2]) rfl (PsQ.no (HF.out.2.no (.inl rfl)) hb)
end Go.Proofs.YtgaegajcejpmdaaGreatDoor.Dt
namespace Go.Proofs.YtgaegajcejpmdaaGreatDoor.Dt
open Go.RowKit
set_option linter.unusedVariables false

/-- The result's place, the reader, the moment. -/
structure PZ (w W : World) (s : ByteArray) (p : Nat) (b : Bool) (a : Mo) : Prop where
  r : W.heap[w.heap.size]? = some (.cells mo0 44 (0, 0))
  x : RdAt W (w.heap.size + 1) s p b
  le : p ≤ s.size
  y : W.heap[w.heap.size + 1 + 1]? = some (.cells (moC a) 44 (0, 0))
  hb : Below w.heap.size w W
theorem PZ.init (w : World) (s : ByteArray) (k : Int) : PZ w (((w.alloc (.cells mo0 44)).alloc (.cells #[.string s, .int .i64 0, .bool false] 103)).alloc (.cells (moC ⟨k, 2000, 1, 1, 0, 0, false, 0⟩) 44)) s 0 false ⟨k, 2000, 1, 1, 0, 0, false, 0⟩ := by
  obtain ⟨a, b, c, d⟩ := box3' w (.cells mo0 44) (.cells #[.string s, .int .i64 0, .bool false] 103) (.cells (moC ⟨k, 2000, 1, 1, 0, 0, false, 0⟩) 44)
  exact ⟨a, b, Nat.zero_le _, c, d⟩
theorem PZ.ex {w W : World} {s : ByteArray} {p : Nat} {b : Bool} {a : Mo} (h : PZ w W s p b a) : ∃ W', W = W' ∧ PZ w W' s p b a := ⟨W, rfl, h⟩
theorem PZ.rp {w W W' : World} {s : ByteArray} {p p' : Nat} {b b' : Bool} {a : Mo} (h : PZ w W s p b a) (r : RP (w.heap.size + 1) s b W W' p' b') : PZ w W' s p' b' a :=
  ⟨(r.fr.block _ (lt_of h.r) (by omega)).trans h.r, r.x, r.le, (r.fr.block _ (lt_of h.y) (by omega)).trans h.y, h.hb.trans (r.fr.toBelow h.hb.size (by omega))⟩
theorem PZ.setY {w W : World} {s : ByteArray} {p : Nat} {b : Bool} {a a' : Mo} (h : PZ w W s p b a) (i : Nat) (v : Value) (e : (moC a).setIfInBounds i v = moC a') : PZ w (W.setCell ⟨w.heap.size + 1 + 1, i, none⟩ v) s p b a' :=
  ⟨(Below.heap_setCell _ _ _ _ (by simp; omega)).trans h.r, (Below.heap_setCell _ _ _ _ (by simp)).trans h.x, h.le, by rw [← e]; exact bset h.y v, h.hb.setCell (p := ⟨w.heap.size + 1 + 1, i, none⟩) (by simp; omega) v⟩
theorem PZ.zs {w W : World} {s : ByteArray} {p : Nat} {b : Bool} {a : Mo} (h : PZ w W s p b a) : ZS W W (w.heap.size + 1) (w.heap.size + 1 + 1) s p b a := ⟨h.x, h.le, h.y, by omega, Fro.refl _ _⟩
theorem PZ.ofz {w W W' : World} {s : ByteArray} {p p' : Nat} {b b' : Bool} {a a' : Mo} (h : PZ w W s p b a) (z : ZS W W' (w.heap.size + 1) (w.heap.size + 1 + 1) s p' b' a') : PZ w W' s p' b' a' :=
  ⟨(z.fr.block _ (lt_of h.r) (by omega)).trans h.r, z.x, z.le, z.y, h.hb.trans (z.fr.toBelow h.hb.size (by omega))⟩
theorem PZ.drewN {w W : World} {s : ByteArray} {p : Nat} {b : Bool} {a : Mo} (h : PZ w W s p b a) (q : Nat) : PZ w (W.drewN q) s p b a := ⟨h.r, h.x, h.le, h.y, bdrewN h.hb q⟩
/-- What is left to be told. -/
structure PrV (o : Option Mo) (s : ByteArray) (p' : Nat) (b' : Bool) (v : Mo) : Prop where
  yes : ∀ x, o = some x → b' = false ∧ p' = s.size ∧ x = v
  non : o = none → b' = true ∨ p' < s.size
theorem PrV.stepV {α : Type} {o : Option (α × List Int)} {K : α × List Int → Option Mo} {s : ByteArray} {p1 p' : Nat} {b1 b' : Bool} {x : α} {v : Mo} (k : StV o s p1 b1 x) (t : b1 = true → b' = true) (h : b1 = false → PrV (K (x, (bl s).drop p1)) s p' b' v) : PrV (o.bind K) s p' b' v := by
  cases e : o with
  | none => exact ⟨fun y q => by simp at q, fun _ => .inl (t (k.2 e))⟩
  | some z =>
    obtain ⟨h1, h2, h3⟩ := k.1 z.1 z.2 e
    have := h h1
    rw [h2, ← h3] at this
    exact this
theorem PrV.stepT {o : Option (List Int)} {K : List Int → Option Mo} {s : ByteArray} {p1 p' : Nat} {b b1 b' : Bool} {v : Mo} (hb : b = false) (k : StT o s p1 b b1) (t : b1 = true → b' = true) (h : b1 = false → PrV (K ((bl s).drop p1)) s p' b' v) : PrV (o.bind K) s p' b' v := by
  cases e : o with
  | none => exact ⟨fun y q => by simp at q, fun _ => .inl (t (k.2 e))⟩
  | some z =>
    obtain ⟨h1, h3⟩ := k.1 z e
    have := h (h1.trans hb)
    rw [← h3] at this
    exact this
theorem PrV.last {o : Option (Bool × Int)} {f : Bool × Int → Mo} {s : ByteArray} {p' : Nat} {b' : Bool} {hz : Bool} {z : Int} (k : ZnV o s p' b' hz z) : PrV (o.map f) s p' b' (f (hz, z)) := by
  cases e : o with
  | none => exact ⟨fun y q => by simp at q, fun _ => k.2 e⟩
  | some x =>
    obtain ⟨h1, h2, h3, h4⟩ := k.1 x e
    refine ⟨fun y q => ⟨h1, h2, ?_⟩, fun q => by simp at q⟩
    rw [Option.map_some] at q
    obtain rfl := Option.some.inj q
    rw [h3, h4]
theorem PrV.no {o : Option Mo} {s : ByteArray} {p' : Nat} {b' : Bool} {v : Mo} (h : PrV o s p' b' v) (k : b' = true ∨ p' < s.size) : o = none := by
  cases e : o with
  | none => rfl
  | some x =>
    obtain ⟨h1, h2, _⟩ := h.1 x e
    rcases k with k | k
    · rw [h1] at k; cases k
    · omega
theorem PrV.ok {o : Option Mo} {s : ByteArray} {p' : Nat} {v : Mo} (h : PrV o s p' false v) (k : ¬ p' < s.size) : o = some v := by
  cases e : o with
  | none => rcases h.2 e with q | q
            · cases q
            · exact absurd q k
  | some x => rw [(h.1 x e).2.2]
/-- What Parse answers. -/
def PaQ (o : Option Mo) (w : World) (e : Ending) (w' : World) : Prop := e = .returned (.tuple #[moV (o.getD z0), .int .i64 (if o.isSome then 0 else 2)]) ∧ Below w.heap.size w w'
theorem PaQ.no {o : Option Mo} {w w' : World} (h : o = none) (hb : Below w.heap.size w w') : PaQ o w (.returned (.tuple #[moV z0, .int .i64 2])) w' := by subst h; exact ⟨rfl, hb⟩
theorem PaQ.yes {o : Option Mo} {v : Mo} {w w' : World} (h : o = some v) (hb : Below w.heap.size w w') : PaQ o w (.returned (.tuple #[moV v, .int .i64 0])) w' := by subst h; exact ⟨rfl, hb⟩
theorem nx_not {a : Mo} (h : a.s ≠ 86400) : nxM a = a := by unfold nxM; rw [if_neg h]
end Go.Proofs.YtgaegajcejpmdaaGreatDoor.Dt
namespace Go.Proofs.YtgaegajcejpmdaaGreatDoor.Dt
open Go.RowKit
set_option linter.unusedVariables false

set_option maxRecDepth 8000 in
set_option maxHeartbeats 4000000 in
theorem parse_r8 (s : ByteArray) (w : World) (hs : s.size ≤ maxLen) : Calls Tryz.prog 45 #[.int .i64 8, .string s] w fun e w' => PaQ (prM 8 (bl s)) w e w' := by
  have hnum := hs
  unfold maxLen at hnum
  go_enter Tryz.func45, Tryz.ntmps45
  go_upto_region 13 with fail
  obtain ⟨W0, hW0, HP0'⟩ := PZ.ex (PZ.init w s 8)
  rw [hW0]
  have HP0 : Hid _ := HP0'
  clear hW0 HP0'
  go_wp2_with fail
  refine Calls.mono (take_r (w.heap.size + 1) s 0 false 45 _ HP0.out.x hs HP0.out.le) ?_
  rintro e w1 ⟨p1, b1, rfl, r1, k1⟩
  have HP1 : Hid _ := HP0.out.rp r1
  have HK1 : Hid _ := And.intro k1 r1.st
  clear r1 k1
  go_wp2_with fail
  refine Calls.mono (take_r (w.heap.size + 1) s p1 b1 45 _ HP1.out.x hs HP1.out.le) ?_
  rintro e w2 ⟨p2, b2, rfl, r2, k2⟩
  have HP2 : Hid _ := HP1.out.rp r2
  have HK2 : Hid _ := And.intro k2 r2.st
  clear r2 k2
  go_wp2_with fail
  refine Calls.mono (in_r (w.heap.size + 1) s p2 b2 1 12 _ HP2.out.x hs HP2.out.le) ?_
  rintro e w3 ⟨p3, b3, v3, rfl, r3, v3l, v3h, k3⟩
  have HP3' : Hid _ := HP2.out.rp r3
  have HK3 : Hid _ := And.intro k3 r3.st
  clear r3 k3
  obtain ⟨⟨c0, c1, c2, c3, c4, c5, c6, c7⟩, f0, f1, f2, f3, f4, f5, f6, f7⟩ := blk8 HP3'.out.y
  go_upto_region 20 with fail
  obtain ⟨W3, hW3, HQ3⟩ := PZ.ex (PZ.setY HP3'.out 2 (.int .i64 v3) (a' := ⟨8, 2000, v3, 1, 0, 0, false, 0⟩) rfl)
  rw [hW3]
  have HP3 : Hid _ := HQ3
  clear hW3 HQ3 HP3' c0 c1 c2 c3 c4 c5 c6 c7 f0 f1 f2 f3 f4 f5 f6 f7
  go_wp2_with fail
  refine Calls.mono (zone_r (w.heap.size + 1) (w.heap.size + 1 + 1) s p3 b3 8 2000 v3 1 0 0 _ HP3.out.zs hs) ?_
  rintro e wz ⟨pz, bz, hz, z, rfl, zz, stz, zl, zh, kz⟩
  have HZ : Hid _ := HP3.out.ofz zz
  have HKZ : Hid _ := And.intro kz stz
  clear zz kz stz
  dsimp only at HZ
  have hF : PrV (prM 8 (bl s)) s pz bz (nxM ⟨8, 2000, v3, 1, 0, 0, hz, z⟩) := by
    rw [pr_8]
    exact PrV.stepT rfl HK1.out.1 (fun q => (fun q => HKZ.out.2 (HK3.out.2 q)) (HK2.out.2 q)) (fun h1 => PrV.stepT h1 HK2.out.1 (fun q => HKZ.out.2 (HK3.out.2 q)) (fun h2 => PrV.stepV (HK3.out.1 h2) HKZ.out.2 (fun h3 => PrV.last (HKZ.out.1 h3))))
  have HF : Hid _ := hF
  clear hF HKZ HK1 HP1 HK2 HP2 HK3 HP3 HP0
  obtain ⟨g0, g1, g2, _⟩ := HZ.out.x.cells
  obtain ⟨⟨c0, c1, c2, c3, c4, c5, c6, c7⟩, f0, f1, f2, f3, f4, f5, f6, f7⟩ := blk8 HZ.out.y
  obtain ⟨⟨e0, e1, e2, e3, e4, e5, e6, e7⟩, i0, i1, i2, i3, i4, i5, i6, i7⟩ := blk8 HZ.out.r
  cases bz
  · by_cases hlt : pz < s.size
    · have d1 : decide ((pz : Int) < (s.size : Int)) = true := by simp; omega
      go_wp2_with fail
      go_quiet (fail)
      go_wp2_with fail
      obtain ⟨U, hU, hx, hb, _⟩ := put8 (X := w.heap.size) (PZ.drewN HZ.out nq).hb (Nat.le_refl _) (PZ.drewN HZ.out nq).r (.int .i64 0) (.int .i64 0) (.int .i64 0) (.int .i64 0) (.int .i64 0) (.int .i64 0) (.bool false) (.int .i64 0)
      rw [hU]
      obtain ⟨⟨k0, k1, k2, k3, k4, k5, k6, k7⟩, _⟩ := blk8 hx
      exact bodyPost_ret (v := .tuple #[moV z0, .int .i64 2]) (by simp [results, Tryz.results45, go_sem, k0, k1, k2, k3, k4, k5, k6, k7]) rfl (PaQ.no (HF.out.no (.inr hlt)) hb)
    · have d1 : decide ((pz : Int) < (s.size : Int)) = false := by simp; omega
      go_wp2_with fail
      go_quiet (fail)
      go_wp2_with fail
      obtain ⟨U, hU, hx, hb, _⟩ := put8 (X := w.heap.size) (PZ.drewN HZ.out nq).hb (Nat.le_refl _) (PZ.drewN HZ.out nq).r (.int .i64 8) (.int .i64 2000) (.int .i64 v3) (.int .i64 1) (.int .i64 0) (.int .i64 0) (.bool hz) (.int .i64 z)
      rw [hU]
      obtain ⟨⟨k0, k1, k2, k3, k4, k5, k6, k7⟩, _⟩ := blk8 hx
      exact bodyPost_ret (v := .tuple #[moV ⟨8, 2000, v3, 1, 0, 0, hz, z⟩, .int .i64 0]) (by simp [results, Tryz.results45, go_sem, k0, k1, k2, k3, k4, k5, k6, k7]) rfl (PaQ.yes (by rw [HF.out.ok hlt, nx_not (by simp)]) hb)
  · go_wp2_with fail
    go_quiet (fail)
    go_wp2_with fail
    obtain ⟨U, hU, hx, hb, _⟩ := put8 (X := w.heap.size) (PZ.drewN HZ.out nq).hb (Nat.le_refl _) (PZ.drewN HZ.out nq).r (.int .i64 0) (.int .i64 0) (.int .i64 0) (.int .i64 0) (.int .i64 0) (.int .i64 0) (.bool false) (.int .i64 0)
    rw [hU]
    obtain ⟨⟨k0, k1, k2, k3, k4, k5, k6, k7⟩, _⟩ := blk8 hx
    exact bodyPost_ret (v := .tuple #[moV z0, .int .i64 2]) (by simp [results, Tryz.results45, go_sem, k0, k1, k2, k3, k4, k5, k6, k7]) rfl (PaQ.no (HF.out.no (.inl rfl)) hb)
end Go.Proofs.YtgaegajcejpmdaaGreatDoor.Dt
namespace Go.Proofs.YtgaegajcejpmdaaGreatDoor.Dt
open Go.RowKit
set_option linter.unusedVariables false

set_option maxRecDepth 8000 in
set_option maxHeartbeats 4000000 in
theorem parse_r1 (s : ByteArray) (w : World) (hs : s.size ≤ maxLen) : Calls Tryz.prog 45 #[.int .i64 1, .string s] w fun e w' => PaQ (prM 1 (bl s)) w e w' := by
  have hnum := hs
  unfold maxLen at hnum
  go_enter Tryz.func45, Tryz.ntmps45
  go_upto_region 10 with fail
  obtain ⟨W0, hW0, HP0'⟩ := PZ.ex (PZ.init w s 1)
  rw [hW0]
  have HP0 : Hid _ := HP0'
  clear hW0 HP0'
  go_wp2_with fail
  refine Calls.mono (year_r (w.heap.size + 1) s 0 _ HP0.out.x hs HP0.out.le) ?_
  rintro e w1 ⟨p1, b1, v1, rfl, r1, v1l, v1h, k1⟩
  have HP1' : Hid _ := HP0.out.rp r1
  have HK1 : Hid _ := And.intro k1 r1.st
  obtain ⟨⟨c0, c1, c2, c3, c4, c5, c6, c7⟩, f0, f1, f2, f3, f4, f5, f6, f7⟩ := blk8 HP1'.out.y
  clear r1 k1
  go_upto_region 17 with fail
  obtain ⟨W1, hW1, HQ1⟩ := PZ.ex (PZ.setY HP1'.out 1 (.int .i64 v1) (a' := ⟨1, v1, 1, 1, 0, 0, false, 0⟩) rfl)
  rw [hW1]
  have HP1 : Hid _ := HQ1
  clear hW1 HQ1 HP1' c0 c1 c2 c3 c4 c5 c6 c7 f0 f1 f2 f3 f4 f5 f6 f7
  go_wp2_with fail
  refine Calls.mono (take_r (w.heap.size + 1) s p1 b1 45 _ HP1.out.x hs HP1.out.le) ?_
  rintro e w2 ⟨p2, b2, rfl, r2, k2⟩
  have HP2 : Hid _ := HP1.out.rp r2
  have HK2 : Hid _ := And.intro k2 r2.st
  clear r2 k2
  go_wp2_with fail
  refine Calls.mono (in_r (w.heap.size + 1) s p2 b2 1 12 _ HP2.out.x hs HP2.out.le) ?_
  rintro e w3 ⟨p3, b3, v3, rfl, r3, v3l, v3h, k3⟩
  have HP3' : Hid _ := HP2.out.rp r3
  have HK3 : Hid _ := And.intro k3 r3.st
  clear r3 k3
  obtain ⟨⟨c0, c1, c2, c3, c4, c5, c6, c7⟩, f0, f1, f2, f3, f4, f5, f6, f7⟩ := blk8 HP3'.out.y
  go_upto_region 20 with fail
  obtain ⟨W3, hW3, HQ3⟩ := PZ.ex (PZ.setY HP3'.out 2 (.int .i64 v3) (a' := ⟨1, v1, v3, 1, 0, 0, false, 0⟩) rfl)
  rw [hW3]
  have HP3 : Hid _ := HQ3
  clear hW3 HQ3 HP3' c0 c1 c2 c3 c4 c5 c6 c7 f0 f1 f2 f3 f4 f5 f6 f7
  go_wp2_with fail
  refine Calls.mono (take_r (w.heap.size + 1) s p3 b3 45 _ HP3.out.x hs HP3.out.le) ?_
  rintro e w4 ⟨p4, b4, rfl, r4, k4⟩
  have HP4 : Hid _ := HP3.out.rp r4
  have HK4 : Hid _ := And.intro k4 r4.st
  clear r4 k4
  obtain ⟨⟨c0, c1, c2, c3, c4, c5, c6, c7⟩, f0, f1, f2, f3, f4, f5, f6, f7⟩ := blk8 HP4.out.y
  go_upto_region 24 with fail
  have hl5 : ∀ W : World, _ := fun W => length_r v1 v3 W (by omega) (by omega) (by omega) (by omega)
  obtain ⟨LN, hLN⟩ : ∃ LN, lenL (lnY v1) v3 = LN := ⟨_, rfl⟩
  rw [hLN] at hl5
  have HL : Hid _ := And.intro hl5 hLN
  clear hl5 hLN
  go_wp2_with (first | (go_at_call 80; with_reducible refine Calls.mono (HL.out.1 _) ?_; rintro e w' ⟨rfl, hw⟩; subst hw))
  clear c0 c1 c2 c3 c4 c5 c6 c7 f0 f1 f2 f3 f4 f5 f6 f7
  refine Calls.mono (in_r (w.heap.size + 1) s p4 b4 1 LN _ HP4.out.x hs HP4.out.le) ?_
  rintro e w5 ⟨p5, b5, v5, rfl, r5, v5l, v5h, k5⟩
  have HP5' : Hid _ := HP4.out.rp r5
  have HK5 : Hid _ := And.intro k5 r5.st
  clear r5 k5
  obtain ⟨⟨c0, c1, c2, c3, c4, c5, c6, c7⟩, f0, f1, f2, f3, f4, f5, f6, f7⟩ := blk8 HP5'.out.y
  go_upto_region 26 with fail
  obtain ⟨W5, hW5, HQ5⟩ := PZ.ex (PZ.setY HP5'.out 3 (.int .i64 v5) (a' := ⟨1, v1, v3, v5, 0, 0, false, 0⟩) rfl)
  rw [hW5]
  have HP5 : Hid _ := HQ5
  clear hW5 HQ5 HP5' c0 c1 c2 c3 c4 c5 c6 c7 f0 f1 f2 f3 f4 f5 f6 f7
  go_wp2_with fail
  refine Calls.mono (take_r (w.heap.size + 1) s p5 b5 84 _ HP5.out.x hs HP5.out.le) ?_
  rintro e w6 ⟨p6, b6, rfl, r6, k6⟩
  have HP6 : Hid _ := HP5.out.rp r6
  have HK6 : Hid _ := And.intro k6 r6.st
  clear r6 k6
  go_wp2_with fail
  refine Calls.mono (clock_r (w.heap.size + 1) s p6 b6 _ HP6.out.x hs HP6.out.le) ?_
  rintro e w7 ⟨p7, b7, v7, u7, rfl, r7, v7l, v7h, u7l, u7h, k7⟩
  have HP7' : Hid _ := HP6.out.rp r7
  have HK7 : Hid _ := And.intro k7 r7.st
  clear r7 k7
  obtain ⟨⟨c0, c1, c2, c3, c4, c5, c6, c7⟩, f0, f1, f2, f3, f4, f5, f6, f7⟩ := blk8 HP7'.out.y
  go_upto_region 30 with fail
  obtain ⟨W7, hW7, HQ7⟩ := PZ.ex (PZ.setY (PZ.setY HP7'.out 4 (.int .i64 v7) (a' := ⟨1, v1, v3, v5, v7, 0, false, 0⟩) rfl) 5 (.int .i64 u7) (a' := ⟨1, v1, v3, v5, v7, u7, false, 0⟩) rfl)
  rw [hW7]
  have HP7 : Hid _ := HQ7
  clear hW7 HQ7 HP7' c0 c1 c2 c3 c4 c5 c6 c7 f0 f1 f2 f3 f4 f5 f6 f7
  go_wp2_with fail
  refine Calls.mono (zone_r (w.heap.size + 1) (w.heap.size + 1 + 1) s p7 b7 1 v1 v3 v5 v7 u7 _ HP7.out.zs hs) ?_
  rintro e wz ⟨pz, bz, hz, z, rfl, zz, stz, zl, zh, kz⟩
  have HZ : Hid _ := HP7.out.ofz zz
  have HKZ : Hid _ := And.intro kz stz
  clear zz kz stz
  dsimp only at HZ
  have hF : PrV (prM 1 (bl s)) s pz bz (nxM ⟨1, v1, v3, v5, v7, u7, hz, z⟩) := by
    rw [pr_1]
    exact PrV.stepV HK1.out.1 (fun q => (fun q => (fun q => (fun q => (fun q => (fun q => HKZ.out.2 (HK7.out.2 q)) (HK6.out.2 q)) (HK5.out.2 q)) (HK4.out.2 q)) (HK3.out.2 q)) (HK2.out.2 q)) (fun h1 => PrV.stepT h1 HK2.out.1 (fun q => (fun q => (fun q => (fun q => (fun q => HKZ.out.2 (HK7.out.2 q)) (HK6.out.2 q)) (HK5.out.2 q)) (HK4.out.2 q)) (HK3.out.2 q)) (fun h2 => PrV.stepV (HK3.out.1 h2) (fun q => (fun q => (fun q => (fun q => HKZ.out.2 (HK7.out.2 q)) (HK6.out.2 q)) (HK5.out.2 q)) (HK4.out.2 q)) (fun h3 => PrV.stepT h3 HK4.out.1 (fun q => (fun q => (fun q => HKZ.out.2 (HK7.out.2 q)) (HK6.out.2 q)) (HK5.out.2 q)) (fun h4 => PrV.stepV (by rw [HL.out.2]; exact HK5.out.1 h4) (fun q => (fun q => HKZ.out.2 (HK7.out.2 q)) (HK6.out.2 q)) (fun h5 => PrV.stepT h5 HK6.out.1 (fun q => HKZ.out.2 (HK7.out.2 q)) (fun h6 => PrV.stepV (HK7.out.1 h6) HKZ.out.2 (fun h7 => PrV.last (HKZ.out.1 h7))))))))
  have HF : Hid _ := hF
  clear hF HKZ HK1 HP1 HK2 HP2 HK3 HP3 HK4 HP4 HK5 HP5 HK6 HP6 HK7 HP7 HP0 HL
  obtain ⟨g0, g1, g2, _⟩ := HZ.out.x.cells
  obtain ⟨⟨c0, c1, c2, c3, c4, c5, c6, c7⟩, f0, f1, f2, f3, f4, f5, f6, f7⟩ := blk8 HZ.out.y
  obtain ⟨⟨e0, e1, e2, e3, e4, e5, e6, e7⟩, i0, i1, i2, i3, i4, i5, i6, i7⟩ := blk8 HZ.out.r
  cases bz
  · by_cases hlt : pz < s.size
    · have d1 : decide ((pz : Int) < (s.size : Int)) = true := by simp; omega
      go_wp2_with fail
      go_quiet (fail)
      go_wp2_with fail
      obtain ⟨U, hU, hx, hb, _⟩ := put8 (X := w.heap.size) (PZ.drewN HZ.out nq).hb (Nat.le_refl _) (PZ.drewN HZ.out nq).r (.int .i64 0) (.int .i64 0) (.int .i64 0) (.int .i64 0) (.int .i64 0) (.int .i64 0) (.bool false) (.int .i64 0)
      rw [hU]
      obtain ⟨⟨k0, k1, k2, k3, k4, k5, k6, k7⟩, _⟩ := blk8 hx
      exact bodyPost_ret (v := .tuple #[moV z0, .int .i64 2]) (by simp [results, Tryz.results45, go_sem, k0, k1, k2, k3, k4, k5, k6, k7]) rfl (PaQ.no (HF.out.no (.inr hlt)) hb)
    · have d1 : decide ((pz : Int) < (s.size : Int)) = false := by simp; omega
      by_cases h24 : v7 = 86400
      · subst h24
        go_wp2_with fail
        go_quiet (fail)
        go_upto_region 36 with fail
        obtain ⟨V, hV, HV'⟩ := PZ.ex (PZ.setY (PZ.drewN HZ.out nq) 4 (.int .i64 0) (a' := ⟨1, v1, v3, v5, 0, u7, hz, z⟩) rfl)
        rw [hV]
        have HV : Hid _ := HV'
        clear hV HV' g0 g1 c0 c1 c2 c3 c4 c5 c6 c7 f0 f1 f2 f3 f4 f5 f6 f7 e0 e1 e2 e3 e4 e5 e6 e7 i0 i1 i2 i3 i4 i5 i6 i7
        have hd := days_bd' (y := v1) (m := v3) (d := v5) (by omega) (by omega) (by omega) (by omega) (by omega) (by omega)
        have q7 := fun W : World => days_r v1 v3 v5 W (by omega) (by omega) (by omega) (by omega) (by omega) (by omega)
        have q8 := fun W : World => put_r ⟨1, v1, v3, v5, 0, u7, hz, z⟩ (daysS v1 v3 v5 + 1) W (by omega) (by omega)
        have hFF := HF.out.ok hlt
        have hnx : nxM ⟨1, v1, v3, v5, 86400, u7, hz, z⟩ = ⟨1, bkY (civL (daysS v1 v3 v5 + 1)), (civM (daysS v1 v3 v5 + 1) : Nat), civD (daysS v1 v3 v5 + 1), 0, u7, hz, z⟩ := rfl
        rw [hnx] at hFF
        dsimp only at q8
        obtain ⟨RR, hRR⟩ : ∃ RR : Mo, (⟨1, bkY (civL (daysS v1 v3 v5 + 1)), (civM (daysS v1 v3 v5 + 1) : Nat), civD (daysS v1 v3 v5 + 1), 0, u7, hz, z⟩ : Mo) = RR := ⟨_, rfl⟩
        have q8' : ∀ W : World, Calls Tryz.prog 83 #[moV ⟨1, v1, v3, v5, 0, u7, hz, z⟩, .int .i64 (daysS v1 v3 v5 + 1)] W fun e w' => e = .returned (moV RR) ∧ Below W.heap.size W w' := by
          rw [← hRR]
          exact q8
        rw [hRR] at hFF
        clear q8 hnx hRR
        generalize daysS v1 v3 v5 = DD at *
        have HC : Hid _ := And.intro q7 (And.intro q8' hFF)
        clear q7 q8' hFF HF
        obtain ⟨hd0, hd1⟩ := hd
        have hwr : IntKind.i64.wrap (DD + 1) = DD + 1 := by rw [IntKind.wrap_i64]; omega
        have y0 : V.drew.heap[w.heap.size + 1 + 1]? = some (.cells (moC ⟨1, v1, v3, v5, 0, u7, hz, z⟩) 44 (0, 0)) := HV.out.y
        obtain ⟨⟨c0, c1, c2, c3, c4, c5, c6, c7⟩, f0, f1, f2, f3, f4, f5, f6, f7⟩ := blk8 y0
        have HY0 : Hid _ := y0
        clear y0
        go_cut [] (fun wx => wx.heap[w.heap.size]? = some (.cells mo0 44 (0, 0)) ∧ wx.heap[w.heap.size + 1 + 1]? = some (.cells (moC RR) 44 (0, 0)) ∧ Below w.heap.size w wx)
        case first =>
          go_region_with (first
            | (go_at_call 84; (with_reducible refine Calls.mono (HC.out.1 _) ?_); rintro e w9 ⟨rfl, hw⟩; subst hw)
            | (go_at_call 83; (with_reducible refine Calls.mono (HC.out.2.1 _) ?_); rintro e w9 ⟨rfl, hb9⟩; have y9 := (hb9.block _ (lt_of HY0.out)).trans HY0.out; clear c0 c1 c2 c3 c4 c5 c6 c7 f0 f1 f2 f3 f4 f5 f6 f7; obtain ⟨⟨c0, c1, c2, c3, c4, c5, c6, c7⟩, f0, f1, f2, f3, f4, f5, f6, f7⟩ := blk8 y9; have HE : Hid _ := And.intro hb9 y9; clear hb9 y9))
          all_goals
            go_wp2_with fail
            go_meet
            case rel =>
              obtain ⟨U1, hU1, hx1, hb1, hk1⟩ := put8 (N := w.heap.size) (X := w.heap.size + 1 + 1) ((PZ.drewN HV.out 1).hb.trans (HE.out.1.mono (PZ.drewN HV.out 1).hb.size)) (by omega) HE.out.2 (.int .i64 RR.k) (.int .i64 RR.y) (.int .i64 RR.m) (.int .i64 RR.d) (.int .i64 RR.s) (.int .i64 RR.n) (.bool RR.hz) (.int .i64 RR.z)
              rw [hU1]
              exact ⟨(hk1.1 _ (by omega)).trans ((HE.out.1.block _ (lt_of (w := V.drew) HV.out.r)).trans HV.out.r), hx1, hb1⟩
        case rest =>
          obtain ⟨xr, hx1, hb1⟩ := hcut
          clear c0 c1 c2 c3 c4 c5 c6 c7 f0 f1 f2 f3 f4 f5 f6 f7
          obtain ⟨⟨c0, c1, c2, c3, c4, c5, c6, c7⟩, _⟩ := blk8 hx1
          obtain ⟨⟨e0, e1, e2, e3, e4, e5, e6, e7⟩, i0, i1, i2, i3, i4, i5, i6, i7⟩ := blk8 xr
          have HU : Hid _ := And.intro hb1 xr
          clear hb1 xr hx1
          go_wp2_with fail
          obtain ⟨U, hU, hx, hb, _⟩ := put8 (X := w.heap.size) HU.out.1 (Nat.le_refl _) HU.out.2 (.int .i64 RR.k) (.int .i64 RR.y) (.int .i64 RR.m) (.int .i64 RR.d) (.int .i64 RR.s) (.int .i64 RR.n) (.bool RR.hz) (.int .i64 RR.z)
          rw [hU]
          obtain ⟨⟨k0, k1, k2, k3, k4, k5, k6, k7⟩, _⟩ := blk8 hx
          exact bodyPost_ret (v := .tuple #[moV RR, .int .i64 0]) (by simp [results, Tryz.results45, go_sem, k0, k1, k2, k3, k4, k5, k6, k7]) rfl (PaQ.yes HC.out.2.2 hb)
      · have d2 : (v7 == 86400) = false := by simpa using h24
        go_wp2_with fail
        go_quiet (fail)
        go_wp2_with fail
        obtain ⟨U, hU, hx, hb, _⟩ := put8 (X := w.heap.size) (PZ.drewN HZ.out nq).hb (Nat.le_refl _) (PZ.drewN HZ.out nq).r (.int .i64 1) (.int .i64 v1) (.int .i64 v3) (.int .i64 v5) (.int .i64 v7) (.int .i64 u7) (.bool hz) (.int .i64 z)
        rw [hU]
        obtain ⟨⟨k0, k1, k2, k3, k4, k5, k6, k7⟩, _⟩ := blk8 hx
        exact bodyPost_ret (v := .tuple #[moV ⟨1, v1, v3, v5, v7, u7, hz, z⟩, .int .i64 0]) (by simp [results, Tryz.results45, go_sem, k0, k1, k2, k3, k4, k5, k6, k7]) rfl (PaQ.yes (by rw [HF.out.ok hlt, nx_not h24]) hb)
  · go_wp2_with fail
    go_quiet (fail)
    go_wp2_with fail
    obtain ⟨U, hU, hx, hb, _⟩ := put8 (X := w.heap.size) (PZ.drewN HZ.out nq).hb (Nat.le_refl _) (PZ.drewN HZ.out nq).r (.int .i64 0) (.int .i64 0) (.int .i64 0) (.int .i64 0) (.int .i64 0) (.int .i64 0) (.bool false) (.int .i64 0)
    rw [hU]
    obtain ⟨⟨k0, k1, k2, k3, k4, k5, k6, k7⟩, _⟩ := blk8 hx
    exact bodyPost_ret (v := .tuple #[moV z0, .int .i64 2]) (by simp [results, Tryz.results45, go_sem, k0, k1, k2, k3, k4, k5, k6, k7]) rfl (PaQ.no (HF.out.no (.inl rfl)) hb)
end Go.Proofs.YtgaegajcejpmdaaGreatDoor.Dt
namespace Go.Proofs.YtgaegajcejpmdaaGreatDoor.Dt
open Go.RowKit
set_option linter.unusedVariables false

set_option maxRecDepth 8000 in
set_option maxHeartbeats 4000000 in
theorem parse_r2 (s : ByteArray) (w : World) (hs : s.size ≤ maxLen) : Calls Tryz.prog 45 #[.int .i64 2, .string s] w fun e w' => PaQ (prM 2 (bl s)) w e w' := by
  have hnum := hs
  unfold maxLen at hnum
  go_enter Tryz.func45, Tryz.ntmps45
  go_upto_region 10 with fail
  obtain ⟨W0, hW0, HP0'⟩ := PZ.ex (PZ.init w s 2)
  rw [hW0]
  have HP0 : Hid _ := HP0'
  clear hW0 HP0'
  go_wp2_with fail
  refine Calls.mono (year_r (w.heap.size + 1) s 0 _ HP0.out.x hs HP0.out.le) ?_
  rintro e w1 ⟨p1, b1, v1, rfl, r1, v1l, v1h, k1⟩
  have HP1' : Hid _ := HP0.out.rp r1
  have HK1 : Hid _ := And.intro k1 r1.st
  obtain ⟨⟨c0, c1, c2, c3, c4, c5, c6, c7⟩, f0, f1, f2, f3, f4, f5, f6, f7⟩ := blk8 HP1'.out.y
  clear r1 k1
  go_upto_region 17 with fail
  obtain ⟨W1, hW1, HQ1⟩ := PZ.ex (PZ.setY HP1'.out 1 (.int .i64 v1) (a' := ⟨2, v1, 1, 1, 0, 0, false, 0⟩) rfl)
  rw [hW1]
  have HP1 : Hid _ := HQ1
  clear hW1 HQ1 HP1' c0 c1 c2 c3 c4 c5 c6 c7 f0 f1 f2 f3 f4 f5 f6 f7
  go_wp2_with fail
  refine Calls.mono (take_r (w.heap.size + 1) s p1 b1 45 _ HP1.out.x hs HP1.out.le) ?_
  rintro e w2 ⟨p2, b2, rfl, r2, k2⟩
  have HP2 : Hid _ := HP1.out.rp r2
  have HK2 : Hid _ := And.intro k2 r2.st
  clear r2 k2
  go_wp2_with fail
  refine Calls.mono (in_r (w.heap.size + 1) s p2 b2 1 12 _ HP2.out.x hs HP2.out.le) ?_
  rintro e w3 ⟨p3, b3, v3, rfl, r3, v3l, v3h, k3⟩
  have HP3' : Hid _ := HP2.out.rp r3
  have HK3 : Hid _ := And.intro k3 r3.st
  clear r3 k3
  obtain ⟨⟨c0, c1, c2, c3, c4, c5, c6, c7⟩, f0, f1, f2, f3, f4, f5, f6, f7⟩ := blk8 HP3'.out.y
  go_upto_region 20 with fail
  obtain ⟨W3, hW3, HQ3⟩ := PZ.ex (PZ.setY HP3'.out 2 (.int .i64 v3) (a' := ⟨2, v1, v3, 1, 0, 0, false, 0⟩) rfl)
  rw [hW3]
  have HP3 : Hid _ := HQ3
  clear hW3 HQ3 HP3' c0 c1 c2 c3 c4 c5 c6 c7 f0 f1 f2 f3 f4 f5 f6 f7
  go_wp2_with fail
  refine Calls.mono (take_r (w.heap.size + 1) s p3 b3 45 _ HP3.out.x hs HP3.out.le) ?_
  rintro e w4 ⟨p4, b4, rfl, r4, k4⟩
  have HP4 : Hid _ := HP3.out.rp r4
  have HK4 : Hid _ := And.intro k4 r4.st
  clear r4 k4
  obtain ⟨⟨c0, c1, c2, c3, c4, c5, c6, c7⟩, f0, f1, f2, f3, f4, f5, f6, f7⟩ := blk8 HP4.out.y
  go_upto_region 24 with fail
  have hl5 : ∀ W : World, _ := fun W => length_r v1 v3 W (by omega) (by omega) (by omega) (by omega)
  obtain ⟨LN, hLN⟩ : ∃ LN, lenL (lnY v1) v3 = LN := ⟨_, rfl⟩
  rw [hLN] at hl5
  have HL : Hid _ := And.intro hl5 hLN
  clear hl5 hLN
  go_wp2_with (first | (go_at_call 80; with_reducible refine Calls.mono (HL.out.1 _) ?_; rintro e w' ⟨rfl, hw⟩; subst hw))
  clear c0 c1 c2 c3 c4 c5 c6 c7 f0 f1 f2 f3 f4 f5 f6 f7
  refine Calls.mono (in_r (w.heap.size + 1) s p4 b4 1 LN _ HP4.out.x hs HP4.out.le) ?_
  rintro e w5 ⟨p5, b5, v5, rfl, r5, v5l, v5h, k5⟩
  have HP5' : Hid _ := HP4.out.rp r5
  have HK5 : Hid _ := And.intro k5 r5.st
  clear r5 k5
  obtain ⟨⟨c0, c1, c2, c3, c4, c5, c6, c7⟩, f0, f1, f2, f3, f4, f5, f6, f7⟩ := blk8 HP5'.out.y
  go_upto_region 26 with fail
  obtain ⟨W5, hW5, HQ5⟩ := PZ.ex (PZ.setY HP5'.out 3 (.int .i64 v5) (a' := ⟨2, v1, v3, v5, 0, 0, false, 0⟩) rfl)
  rw [hW5]
  have HP5 : Hid _ := HQ5
  clear hW5 HQ5 HP5' c0 c1 c2 c3 c4 c5 c6 c7 f0 f1 f2 f3 f4 f5 f6 f7
  go_wp2_with fail
  refine Calls.mono (zone_r (w.heap.size + 1) (w.heap.size + 1 + 1) s p5 b5 2 v1 v3 v5 0 0 _ HP5.out.zs hs) ?_
  rintro e wz ⟨pz, bz, hz, z, rfl, zz, stz, zl, zh, kz⟩
  have HZ : Hid _ := HP5.out.ofz zz
  have HKZ : Hid _ := And.intro kz stz
  clear zz kz stz
  dsimp only at HZ
  have hF : PrV (prM 2 (bl s)) s pz bz (nxM ⟨2, v1, v3, v5, 0, 0, hz, z⟩) := by
    rw [pr_2]
    exact PrV.stepV HK1.out.1 (fun q => (fun q => (fun q => (fun q => HKZ.out.2 (HK5.out.2 q)) (HK4.out.2 q)) (HK3.out.2 q)) (HK2.out.2 q)) (fun h1 => PrV.stepT h1 HK2.out.1 (fun q => (fun q => (fun q => HKZ.out.2 (HK5.out.2 q)) (HK4.out.2 q)) (HK3.out.2 q)) (fun h2 => PrV.stepV (HK3.out.1 h2) (fun q => (fun q => HKZ.out.2 (HK5.out.2 q)) (HK4.out.2 q)) (fun h3 => PrV.stepT h3 HK4.out.1 (fun q => HKZ.out.2 (HK5.out.2 q)) (fun h4 => PrV.stepV (by rw [HL.out.2]; exact HK5.out.1 h4) HKZ.out.2 (fun h5 => PrV.last (HKZ.out.1 h5))))))
  have HF : Hid _ := hF
  clear hF HKZ HK1 HP1 HK2 HP2 HK3 HP3 HK4 HP4 HK5 HP5 HP0 HL
  obtain ⟨g0, g1, g2, _⟩ := HZ.out.x.cells
  obtain ⟨⟨c0, c1, c2, c3, c4, c5, c6, c7⟩, f0, f1, f2, f3, f4, f5, f6, f7⟩ := blk8 HZ.out.y
  obtain ⟨⟨e0, e1, e2, e3, e4, e5, e6, e7⟩, i0, i1, i2, i3, i4, i5, i6, i7⟩ := blk8 HZ.out.r
  cases bz
  · by_cases hlt : pz < s.size
    · have d1 : decide ((pz : Int) < (s.size : Int)) = true := by simp; omega
      go_wp2_with fail
      go_quiet (fail)
      go_wp2_with fail
      obtain ⟨U, hU, hx, hb, _⟩ := put8 (X := w.heap.size) (PZ.drewN HZ.out nq).hb (Nat.le_refl _) (PZ.drewN HZ.out nq).r (.int .i64 0) (.int .i64 0) (.int .i64 0) (.int .i64 0) (.int .i64 0) (.int .i64 0) (.bool false) (.int .i64 0)
      rw [hU]
      obtain ⟨⟨k0, k1, k2, k3, k4, k5, k6, k7⟩, _⟩ := blk8 hx
      exact bodyPost_ret (v := .tuple #[moV z0, .int .i64 2]) (by simp [results, Tryz.results45, go_sem, k0, k1, k2, k3, k4, k5, k6, k7]) rfl (PaQ.no (HF.out.no (.inr hlt)) hb)
    · have d1 : decide ((pz : Int) < (s.size : Int)) = false := by simp; omega
      go_wp2_with fail
      go_quiet (fail)
      go_wp2_with fail
      obtain ⟨U, hU, hx, hb, _⟩ := put8 (X := w.heap.size) (PZ.drewN HZ.out nq).hb (Nat.le_refl _) (PZ.drewN HZ.out nq).r (.int .i64 2) (.int .i64 v1) (.int .i64 v3) (.int .i64 v5) (.int .i64 0) (.int .i64 0) (.bool hz) (.int .i64 z)
      rw [hU]
      obtain ⟨⟨k0, k1, k2, k3, k4, k5, k6, k7⟩, _⟩ := blk8 hx
      exact bodyPost_ret (v := .tuple #[moV ⟨2, v1, v3, v5, 0, 0, hz, z⟩, .int .i64 0]) (by simp [results, Tryz.results45, go_sem, k0, k1, k2, k3, k4, k5, k6, k7]) rfl (PaQ.yes (by rw [HF.out.ok hlt, nx_not (by simp)]) hb)
  · go_wp2_with fail
    go_quiet (fail)
    go_wp2_with fail
    obtain ⟨U, hU, hx, hb, _⟩ := put8 (X := w.heap.size) (PZ.drewN HZ.out nq).hb (Nat.le_refl _) (PZ.drewN HZ.out nq).r (.int .i64 0) (.int .i64 0) (.int .i64 0) (.int .i64 0) (.int .i64 0) (.int .i64 0) (.bool false) (.int .i64 0)
    rw [hU]
    obtain ⟨⟨k0, k1, k2, k3, k4, k5, k6, k7⟩, _⟩ := blk8 hx
    exact bodyPost_ret (v := .tuple #[moV z0, .int .i64 2]) (by simp [results, Tryz.results45, go_sem, k0, k1, k2, k3, k4, k5, k6, k7]) rfl (PaQ.no (HF.out.no (.inl rfl)) hb)
end Go.Proofs.YtgaegajcejpmdaaGreatDoor.Dt
namespace Go.Proofs.YtgaegajcejpmdaaGreatDoor.Dt
open Go.RowKit
set_option linter.unusedVariables false

set_option maxRecDepth 8000 in
set_option maxHeartbeats 4000000 in
theorem parse_r3 (s : ByteArray) (w : World) (hs : s.size ≤ maxLen) : Calls Tryz.prog 45 #[.int .i64 3, .string s] w fun e w' => PaQ (prM 3 (bl s)) w e w' := by
  have hnum := hs
  unfold maxLen at hnum
  go_enter Tryz.func45, Tryz.ntmps45
  go_upto_region 29 with fail
  obtain ⟨W0, hW0, HP0'⟩ := PZ.ex (PZ.init w s 3)
  rw [hW0]
  have HP0 : Hid _ := HP0'
  clear hW0 HP0'
  go_wp2_with fail
  refine Calls.mono (clock_r (w.heap.size + 1) s 0 false _ HP0.out.x hs HP0.out.le) ?_
  rintro e w1 ⟨p1, b1, v1, u1, rfl, r1, v1l, v1h, u1l, u1h, k1⟩
  have HP1' : Hid _ := HP0.out.rp r1
  have HK1 : Hid _ := And.intro k1 r1.st
  clear r1 k1
  obtain ⟨⟨c0, c1, c2, c3, c4, c5, c6, c7⟩, f0, f1, f2, f3, f4, f5, f6, f7⟩ := blk8 HP1'.out.y
  go_upto_region 30 with fail
  obtain ⟨W1, hW1, HQ1⟩ := PZ.ex (PZ.setY (PZ.setY HP1'.out 4 (.int .i64 v1) (a' := ⟨3, 2000, 1, 1, v1, 0, false, 0⟩) rfl) 5 (.int .i64 u1) (a' := ⟨3, 2000, 1, 1, v1, u1, false, 0⟩) rfl)
  rw [hW1]
  have HP1 : Hid _ := HQ1
  clear hW1 HQ1 HP1' c0 c1 c2 c3 c4 c5 c6 c7 f0 f1 f2 f3 f4 f5 f6 f7
  go_wp2_with fail
  refine Calls.mono (zone_r (w.heap.size + 1) (w.heap.size + 1 + 1) s p1 b1 3 2000 1 1 v1 u1 _ HP1.out.zs hs) ?_
  rintro e wz ⟨pz, bz, hz, z, rfl, zz, stz, zl, zh, kz⟩
  have HZ : Hid _ := HP1.out.ofz zz
  have HKZ : Hid _ := And.intro kz stz
  clear zz kz stz
  dsimp only at HZ
  have hF : PrV (prM 3 (bl s)) s pz bz (nxM ⟨3, 2000, 1, 1, v1, u1, hz, z⟩) := by
    rw [pr_3]
    exact PrV.stepV (HK1.out.1 (by simp)) HKZ.out.2 (fun h1 => PrV.last (HKZ.out.1 h1))
  have HF : Hid _ := hF
  clear hF HKZ HK1 HP1 HP0
  obtain ⟨g0, g1, g2, _⟩ := HZ.out.x.cells
  obtain ⟨⟨c0, c1, c2, c3, c4, c5, c6, c7⟩, f0, f1, f2, f3, f4, f5, f6, f7⟩ := blk8 HZ.out.y
  obtain ⟨⟨e0, e1, e2, e3, e4, e5, e6, e7⟩, i0, i1, i2, i3, i4, i5, i6, i7⟩ := blk8 HZ.out.r
  cases bz
  · by_cases hlt : pz < s.size
    · have d1 : decide ((pz : Int) < (s.size : Int)) = true := by simp; omega
      go_wp2_with fail
      go_quiet (fail)
      go_wp2_with fail
      obtain ⟨U, hU, hx, hb, _⟩ := put8 (X := w.heap.size) (PZ.drewN HZ.out nq).hb (Nat.le_refl _) (PZ.drewN HZ.out nq).r (.int .i64 0) (.int .i64 0) (.int .i64 0) (.int .i64 0) (.int .i64 0) (.int .i64 0) (.bool false) (.int .i64 0)
      rw [hU]
      obtain ⟨⟨k0, k1, k2, k3, k4, k5, k6, k7⟩, _⟩ := blk8 hx
      exact bodyPost_ret (v := .tuple #[moV z0, .int .i64 2]) (by simp [results, Tryz.results45, go_sem, k0, k1, k2, k3, k4, k5, k6, k7]) rfl (PaQ.no (HF.out.no (.inr hlt)) hb)
    · have d1 : decide ((pz : Int) < (s.size : Int)) = false := by simp; omega
      by_cases h24 : v1 = 86400
      · subst h24
        go_wp2_with fail
        go_quiet (fail)
        go_wp2_with fail
        obtain ⟨V, hV, HV⟩ := PZ.ex (PZ.setY (PZ.drewN HZ.out nq) 4 (.int .i64 0) (a' := ⟨3, 2000, 1, 1, 0, u1, hz, z⟩) rfl)
        rw [hV]
        obtain ⟨U, hU, hx, hb, _⟩ := put8 (X := w.heap.size) HV.hb (Nat.le_refl _) HV.r (.int .i64 3) (.int .i64 2000) (.int .i64 1) (.int .i64 1) (.int .i64 0) (.int .i64 u1) (.bool hz) (.int .i64 z)
        rw [hU]
        obtain ⟨⟨k0, k1, k2, k3, k4, k5, k6, k7⟩, _⟩ := blk8 hx
        exact bodyPost_ret (v := .tuple #[moV ⟨3, 2000, 1, 1, 0, u1, hz, z⟩, .int .i64 0]) (by simp [results, Tryz.results45, go_sem, k0, k1, k2, k3, k4, k5, k6, k7]) rfl (PaQ.yes (by rw [HF.out.ok hlt]; rfl) hb)
      · have d2 : (v1 == 86400) = false := by simpa using h24
        go_wp2_with fail
        go_quiet (fail)
        go_wp2_with fail
        obtain ⟨U, hU, hx, hb, _⟩ := put8 (X := w.heap.size) (PZ.drewN HZ.out nq).hb (Nat.le_refl _) (PZ.drewN HZ.out nq).r (.int .i64 3) (.int .i64 2000) (.int .i64 1) (.int .i64 1) (.int .i64 v1) (.int .i64 u1) (.bool hz) (.int .i64 z)
        rw [hU]
        obtain ⟨⟨k0, k1, k2, k3, k4, k5, k6, k7⟩, _⟩ := blk8 hx
        exact bodyPost_ret (v := .tuple #[moV ⟨3, 2000, 1, 1, v1, u1, hz, z⟩, .int .i64 0]) (by simp [results, Tryz.results45, go_sem, k0, k1, k2, k3, k4, k5, k6, k7]) rfl (PaQ.yes (by rw [HF.out.ok hlt, nx_not h24]) hb)
  · go_wp2_with fail
    go_quiet (fail)
    go_wp2_with fail
    obtain ⟨U, hU, hx, hb, _⟩ := put8 (X := w.heap.size) (PZ.drewN HZ.out nq).hb (Nat.le_refl _) (PZ.drewN HZ.out nq).r (.int .i64 0) (.int .i64 0) (.int .i64 0) (.int .i64 0) (.int .i64 0) (.int .i64 0) (.bool false) (.int .i64 0)
    rw [hU]
    obtain ⟨⟨k0, k1, k2, k3, k4, k5, k6, k7⟩, _⟩ := blk8 hx
    exact bodyPost_ret (v := .tuple #[moV z0, .int .i64 2]) (by simp [results, Tryz.results45, go_sem, k0, k1, k2, k3, k4, k5, k6, k7]) rfl (PaQ.no (HF.out.no (.inl rfl)) hb)
end Go.Proofs.YtgaegajcejpmdaaGreatDoor.Dt
namespace Go.Proofs.YtgaegajcejpmdaaGreatDoor.Dt
open Go.RowKit
set_option linter.unusedVariables false

set_option maxRecDepth 8000 in
set_option maxHeartbeats 4000000 in
theorem parse_r4 (s : ByteArray) (w : World) (hs : s.size ≤ maxLen) : Calls Tryz.prog 45 #[.int .i64 4, .string s] w fun e w' => PaQ (prM 4 (bl s)) w e w' := by
  have hnum := hs
  unfold maxLen at hnum
  go_enter Tryz.func45, Tryz.ntmps45
  go_upto_region 10 with fail
  obtain ⟨W0, hW0, HP0'⟩ := PZ.ex (PZ.init w s 4)
  rw [hW0]
  have HP0 : Hid _ := HP0'
  clear hW0 HP0'
  go_wp2_with fail
  refine Calls.mono (year_r (w.heap.size + 1) s 0 _ HP0.out.x hs HP0.out.le) ?_
  rintro e w1 ⟨p1, b1, v1, rfl, r1, v1l, v1h, k1⟩
  have HP1' : Hid _ := HP0.out.rp r1
  have HK1 : Hid _ := And.intro k1 r1.st
  obtain ⟨⟨c0, c1, c2, c3, c4, c5, c6, c7⟩, f0, f1, f2, f3, f4, f5, f6, f7⟩ := blk8 HP1'.out.y
  clear r1 k1
  go_upto_region 17 with fail
  obtain ⟨W1, hW1, HQ1⟩ := PZ.ex (PZ.setY HP1'.out 1 (.int .i64 v1) (a' := ⟨4, v1, 1, 1, 0, 0, false, 0⟩) rfl)
  rw [hW1]
  have HP1 : Hid _ := HQ1
  clear hW1 HQ1 HP1' c0 c1 c2 c3 c4 c5 c6 c7 f0 f1 f2 f3 f4 f5 f6 f7
  go_wp2_with fail
  refine Calls.mono (take_r (w.heap.size + 1) s p1 b1 45 _ HP1.out.x hs HP1.out.le) ?_
  rintro e w2 ⟨p2, b2, rfl, r2, k2⟩
  have HP2 : Hid _ := HP1.out.rp r2
  have HK2 : Hid _ := And.intro k2 r2.st
  clear r2 k2
  go_wp2_with fail
  refine Calls.mono (in_r (w.heap.size + 1) s p2 b2 1 12 _ HP2.out.x hs HP2.out.le) ?_
  rintro e w3 ⟨p3, b3, v3, rfl, r3, v3l, v3h, k3⟩
  have HP3' : Hid _ := HP2.out.rp r3
  have HK3 : Hid _ := And.intro k3 r3.st
  clear r3 k3
  obtain ⟨⟨c0, c1, c2, c3, c4, c5, c6, c7⟩, f0, f1, f2, f3, f4, f5, f6, f7⟩ := blk8 HP3'.out.y
  go_upto_region 20 with fail
  obtain ⟨W3, hW3, HQ3⟩ := PZ.ex (PZ.setY HP3'.out 2 (.int .i64 v3) (a' := ⟨4, v1, v3, 1, 0, 0, false, 0⟩) rfl)
  rw [hW3]
  have HP3 : Hid _ := HQ3
  clear hW3 HQ3 HP3' c0 c1 c2 c3 c4 c5 c6 c7 f0 f1 f2 f3 f4 f5 f6 f7
  go_wp2_with fail
  refine Calls.mono (zone_r (w.heap.size + 1) (w.heap.size + 1 + 1) s p3 b3 4 v1 v3 1 0 0 _ HP3.out.zs hs) ?_
  rintro e wz ⟨pz, bz, hz, z, rfl, zz, stz, zl, zh, kz⟩
  have HZ : Hid _ := HP3.out.ofz zz
  have HKZ : Hid _ := And.intro kz stz
  clear zz kz stz
  dsimp only at HZ
  have hF : PrV (prM 4 (bl s)) s pz bz (nxM ⟨4, v1, v3, 1, 0, 0, hz, z⟩) := by
    rw [pr_4]
    exact PrV.stepV HK1.out.1 (fun q => (fun q => HKZ.out.2 (HK3.out.2 q)) (HK2.out.2 q)) (fun h1 => PrV.stepT h1 HK2.out.1 (fun q => HKZ.out.2 (HK3.out.2 q)) (fun h2 => PrV.stepV (HK3.out.1 h2) HKZ.out.2 (fun h3 => PrV.last (HKZ.out.1 h3))))
  have HF : Hid _ := hF
  clear hF HKZ HK1 HP1 HK2 HP2 HK3 HP3 HP0
  obtain ⟨g0, g1, g2, _⟩ := HZ.out.x.cells
  obtain ⟨⟨c0, c1, c2, c3, c4, c5, c6, c7⟩, f0, f1, f2, f3, f4, f5, f6, f7⟩ := blk8 HZ.out.y
  obtain ⟨⟨e0, e1, e2, e3, e4, e5, e6, e7⟩, i0, i1, i2, i3, i4, i5, i6, i7⟩ := blk8 HZ.out.r
  cases bz
  · by_cases hlt : pz < s.size
    · have d1 : decide ((pz : Int) < (s.size : Int)) = true := by simp; omega
      go_wp2_with fail
      go_quiet (fail)
      go_wp2_with fail
      obtain ⟨U, hU, hx, hb, _⟩ := put8 (X := w.heap.size) (PZ.drewN HZ.out nq).hb (Nat.le_refl _) (PZ.drewN HZ.out nq).r (.int .i64 0) (.int .i64 0) (.int .i64 0) (.int .i64 0) (.int .i64 0) (.int .i64 0) (.bool false) (.int .i64 0)
      rw [hU]
      obtain ⟨⟨k0, k1, k2, k3, k4, k5, k6, k7⟩, _⟩ := blk8 hx
      exact bodyPost_ret (v := .tuple #[moV z0, .int .i64 2]) (by simp [results, Tryz.results45, go_sem, k0, k1, k2, k3, k4, k5, k6, k7]) rfl (PaQ.no (HF.out.no (.inr hlt)) hb)
    · have d1 : decide ((pz : Int) < (s.size : Int)) = false := by simp; omega
      go_wp2_with fail
      go_quiet (fail)
      go_wp2_with fail
      obtain ⟨U, hU, hx, hb, _⟩ := put8 (X := w.heap.size) (PZ.drewN HZ.out nq).hb (Nat.le_refl _) (PZ.drewN HZ.out nq).r (.int .i64 4) (.int .i64 v1) (.int .i64 v3) (.int .i64 1) (.int .i64 0) (.int .i64 0) (.bool hz) (.int .i64 z)
      rw [hU]
      obtain ⟨⟨k0, k1, k2, k3, k4, k5, k6, k7⟩, _⟩ := blk8 hx
      exact bodyPost_ret (v := .tuple #[moV ⟨4, v1, v3, 1, 0, 0, hz, z⟩, .int .i64 0]) (by simp [results, Tryz.results45, go_sem, k0, k1, k2, k3, k4, k5, k6, k7]) rfl (PaQ.yes (by rw [HF.out.ok hlt, nx_not (by simp)]) hb)
  · go_wp2_with fail
    go_quiet (fail)
    go_wp2_with fail
    obtain ⟨U, hU, hx, hb, _⟩ := put8 (X := w.heap.size) (PZ.drewN HZ.out nq).hb (Nat.le_refl _) (PZ.drewN HZ.out nq).r (.int .i64 0) (.int .i64 0) (.int .i64 0) (.int .i64 0) (.int .i64 0) (.int .i64 0) (.bool false) (.int .i64 0)
    rw [hU]
    obtain ⟨⟨k0, k1, k2, k3, k4, k5, k6, k7⟩, _⟩ := blk8 hx
    exact bodyPost_ret (v := .tuple #[moV z0, .int .i64 2]) (by simp [results, Tryz.results45, go_sem, k0, k1, k2, k3, k4, k5, k6, k7]) rfl (PaQ.no (HF.out.no (.inl rfl)) hb)
end Go.Proofs.YtgaegajcejpmdaaGreatDoor.Dt
namespace Go.Proofs.YtgaegajcejpmdaaGreatDoor.Dt
open Go.RowKit
set_option linter.unusedVariables false

set_option maxRecDepth 8000 in
set_option maxHeartbeats 4000000 in
theorem parse_r5 (s : ByteArray) (w : World) (hs : s.size ≤ maxLen) : Calls Tryz.prog 45 #[.int .i64 5, .string s] w fun e w' => PaQ (prM 5 (bl s)) w e w' := by
  have hnum := hs
  unfold maxLen at hnum
  go_enter Tryz.func45, Tryz.ntmps45
  go_upto_region 10 with fail
  obtain ⟨W0, hW0, HP0'⟩ := PZ.ex (PZ.init w s 5)
  rw [hW0]
  have HP0 : Hid _ := HP0'
  clear hW0 HP0'
  go_wp2_with fail
  refine Calls.mono (year_r (w.heap.size + 1) s 0 _ HP0.out.x hs HP0.out.le) ?_
  rintro e w1 ⟨p1, b1, v1, rfl, r1, v1l, v1h, k1⟩
  have HP1' : Hid _ := HP0.out.rp r1
  have HK1 : Hid _ := And.intro k1 r1.st
  obtain ⟨⟨c0, c1, c2, c3, c4, c5, c6, c7⟩, f0, f1, f2, f3, f4, f5, f6, f7⟩ := blk8 HP1'.out.y
  clear r1 k1
  go_upto_region 17 with fail
  obtain ⟨W1, hW1, HQ1⟩ := PZ.ex (PZ.setY HP1'.out 1 (.int .i64 v1) (a' := ⟨5, v1, 1, 1, 0, 0, false, 0⟩) rfl)
  rw [hW1]
  have HP1 : Hid _ := HQ1
  clear hW1 HQ1 HP1' c0 c1 c2 c3 c4 c5 c6 c7 f0 f1 f2 f3 f4 f5 f6 f7
  go_wp2_with fail
  refine Calls.mono (zone_r (w.heap.size + 1) (w.heap.size + 1 + 1) s p1 b1 5 v1 1 1 0 0 _ HP1.out.zs hs) ?_
  rintro e wz ⟨pz, bz, hz, z, rfl, zz, stz, zl, zh, kz⟩
  have HZ : Hid _ := HP1.out.ofz zz
  have HKZ : Hid _ := And.intro kz stz
  clear zz kz stz
  dsimp only at HZ
  have hF : PrV (prM 5 (bl s)) s pz bz (nxM ⟨5, v1, 1, 1, 0, 0, hz, z⟩) := by
    rw [pr_5]
    exact PrV.stepV HK1.out.1 HKZ.out.2 (fun h1 => PrV.last (HKZ.out.1 h1))
  have HF : Hid _ := hF
  clear hF HKZ HK1 HP1 HP0
  obtain ⟨g0, g1, g2, _⟩ := HZ.out.x.cells
  obtain ⟨⟨c0, c1, c2, c3, c4, c5, c6, c7⟩, f0, f1, f2, f3, f4, f5, f6, f7⟩ := blk8 HZ.out.y
  obtain ⟨⟨e0, e1, e2, e3, e4, e5, e6, e7⟩, i0, i1, i2, i3, i4, i5, i6, i7⟩ := blk8 HZ.out.r
  cases bz
  · by_cases hlt : pz < s.size
    · have d1 : decide ((pz : Int) < (s.size : Int)) = true := by simp; omega
      go_wp2_with fail
      go_quiet (fail)
      go_wp2_with fail
      obtain ⟨U, hU, hx, hb, _⟩ := put8 (X := w.heap.size) (PZ.drewN HZ.out nq).hb (Nat.le_refl _) (PZ.drewN HZ.out nq).r (.int .i64 0) (.int .i64 0) (.int .i64 0) (.int .i64 0) (.int .i64 0) (.int .i64 0) (.bool false) (.int .i64 0)
      rw [hU]
      obtain ⟨⟨k0, k1, k2, k3, k4, k5, k6, k7⟩, _⟩ := blk8 hx
      exact bodyPost_ret (v := .tuple #[moV z0, .int .i64 2]) (by simp [results, Tryz.results45, go_sem, k0, k1, k2, k3, k4, k5, k6, k7]) rfl (PaQ.no (HF.out.no (.inr hlt)) hb)
    · have d1 : decide ((pz : Int) < (s.size : Int)) = false := by simp; omega
      go_wp2_with fail
      go_quiet (fail)
      go_wp2_with fail
      obtain ⟨U, hU, hx, hb, _⟩ := put8 (X := w.heap.size) (PZ.drewN HZ.out nq).hb (Nat.le_refl _) (PZ.drewN HZ.out nq).r (.int .i64 5) (.int .i64 v1) (.int .i64 1) (.int .i64 1) (.int .i64 0) (.int .i64 0) (.bool hz) (.int .i64 z)
      rw [hU]
      obtain ⟨⟨k0, k1, k2, k3, k4, k5, k6, k7⟩, _⟩ := blk8 hx
      exact bodyPost_ret (v := .tuple #[moV ⟨5, v1, 1, 1, 0, 0, hz, z⟩, .int .i64 0]) (by simp [results, Tryz.results45, go_sem, k0, k1, k2, k3, k4, k5, k6, k7]) rfl (PaQ.yes (by rw [HF.out.ok hlt, nx_not (by simp)]) hb)
  · go_wp2_with fail
    go_quiet (fail)
    go_wp2_with fail
    obtain ⟨U, hU, hx, hb, _⟩ := put8 (X := w.heap.size) (PZ.drewN HZ.out nq).hb (Nat.le_refl _) (PZ.drewN HZ.out nq).r (.int .i64 0) (.int .i64 0) (.int .i64 0) (.int .i64 0) (.int .i64 0) (.int .i64 0) (.bool false) (.int .i64 0)
    rw [hU]
    obtain ⟨⟨k0, k1, k2, k3, k4, k5, k6, k7⟩, _⟩ := blk8 hx
    exact bodyPost_ret (v := .tuple #[moV z0, .int .i64 2]) (by simp [results, Tryz.results45, go_sem, k0, k1, k2, k3, k4, k5, k6, k7]) rfl (PaQ.no (HF.out.no (.inl rfl)) hb)
end Go.Proofs.YtgaegajcejpmdaaGreatDoor.Dt
namespace Go.Proofs.YtgaegajcejpmdaaGreatDoor.Dt
open Go.RowKit
set_option linter.unusedVariables false

set_option maxRecDepth 8000 in
set_option maxHeartbeats 4000000 in
theorem parse_r6 (s : ByteArray) (w : World) (hs : s.size ≤ maxLen) : Calls Tryz.prog 45 #[.int .i64 6, .string s] w fun e w' => PaQ (prM 6 (bl s)) w e w' := by
  have hnum := hs
  unfold maxLen at hnum
  go_enter Tryz.func45, Tryz.ntmps45
  go_upto_region 13 with fail
  obtain ⟨W0, hW0, HP0'⟩ := PZ.ex (PZ.init w s 6)
  rw [hW0]
  have HP0 : Hid _ := HP0'
  clear hW0 HP0'
  go_wp2_with fail
  refine Calls.mono (take_r (w.heap.size + 1) s 0 false 45 _ HP0.out.x hs HP0.out.le) ?_
  rintro e w1 ⟨p1, b1, rfl, r1, k1⟩
  have HP1 : Hid _ := HP0.out.rp r1
  have HK1 : Hid _ := And.intro k1 r1.st
  clear r1 k1
  go_wp2_with fail
  refine Calls.mono (take_r (w.heap.size + 1) s p1 b1 45 _ HP1.out.x hs HP1.out.le) ?_
  rintro e w2 ⟨p2, b2, rfl, r2, k2⟩
  have HP2 : Hid _ := HP1.out.rp r2
  have HK2 : Hid _ := And.intro k2 r2.st
  clear r2 k2
  go_wp2_with fail
  refine Calls.mono (in_r (w.heap.size + 1) s p2 b2 1 12 _ HP2.out.x hs HP2.out.le) ?_
  rintro e w3 ⟨p3, b3, v3, rfl, r3, v3l, v3h, k3⟩
  have HP3' : Hid _ := HP2.out.rp r3
  have HK3 : Hid _ := And.intro k3 r3.st
  clear r3 k3
  obtain ⟨⟨c0, c1, c2, c3, c4, c5, c6, c7⟩, f0, f1, f2, f3, f4, f5, f6, f7⟩ := blk8 HP3'.out.y
  go_upto_region 20 with fail
  obtain ⟨W3, hW3, HQ3⟩ := PZ.ex (PZ.setY HP3'.out 2 (.int .i64 v3) (a' := ⟨6, 2000, v3, 1, 0, 0, false, 0⟩) rfl)
  rw [hW3]
  have HP3 : Hid _ := HQ3
  clear hW3 HQ3 HP3' c0 c1 c2 c3 c4 c5 c6 c7 f0 f1 f2 f3 f4 f5 f6 f7
  go_wp2_with fail
  refine Calls.mono (take_r (w.heap.size + 1) s p3 b3 45 _ HP3.out.x hs HP3.out.le) ?_
  rintro e w4 ⟨p4, b4, rfl, r4, k4⟩
  have HP4 : Hid _ := HP3.out.rp r4
  have HK4 : Hid _ := And.intro k4 r4.st
  clear r4 k4
  obtain ⟨⟨c0, c1, c2, c3, c4, c5, c6, c7⟩, f0, f1, f2, f3, f4, f5, f6, f7⟩ := blk8 HP4.out.y
  go_upto_region 24 with fail
  have hl5 : ∀ W : World, _ := fun W => length_r 2000 v3 W (by omega) (by omega) (by omega) (by omega)
  obtain ⟨LN, hLN⟩ : ∃ LN, lenL (lnY 2000) v3 = LN := ⟨_, rfl⟩
  rw [hLN] at hl5
  have HL : Hid _ := And.intro hl5 hLN
  clear hl5 hLN
  go_wp2_with (first | (go_at_call 80; with_reducible refine Calls.mono (HL.out.1 _) ?_; rintro e w' ⟨rfl, hw⟩; subst hw))
  clear c0 c1 c2 c3 c4 c5 c6 c7 f0 f1 f2 f3 f4 f5 f6 f7
  refine Calls.mono (in_r (w.heap.size + 1) s p4 b4 1 LN _ HP4.out.x hs HP4.out.le) ?_
  rintro e w5 ⟨p5, b5, v5, rfl, r5, v5l, v5h, k5⟩
  have HP5' : Hid _ := HP4.out.rp r5
  have HK5 : Hid _ := And.intro k5 r5.st
  clear r5 k5
  obtain ⟨⟨c0, c1, c2, c3, c4, c5, c6, c7⟩, f0, f1, f2, f3, f4, f5, f6, f7⟩ := blk8 HP5'.out.y
  go_upto_region 26 with fail
  obtain ⟨W5, hW5, HQ5⟩ := PZ.ex (PZ.setY HP5'.out 3 (.int .i64 v5) (a' := ⟨6, 2000, v3, v5, 0, 0, false, 0⟩) rfl)
  rw [hW5]
  have HP5 : Hid _ := HQ5
  clear hW5 HQ5 HP5' c0 c1 c2 c3 c4 c5 c6 c7 f0 f1 f2 f3 f4 f5 f6 f7
  go_wp2_with fail
  refine Calls.mono (zone_r (w.heap.size + 1) (w.heap.size + 1 + 1) s p5 b5 6 2000 v3 v5 0 0 _ HP5.out.zs hs) ?_
  rintro e wz ⟨pz, bz, hz, z, rfl, zz, stz, zl, zh, kz⟩
  have HZ : Hid _ := HP5.out.ofz zz
  have HKZ : Hid _ := And.intro kz stz
  clear zz kz stz
  dsimp only at HZ
  have hF : PrV (prM 6 (bl s)) s pz bz (nxM ⟨6, 2000, v3, v5, 0, 0, hz, z⟩) := by
    rw [pr_6]
    exact PrV.stepT rfl HK1.out.1 (fun q => (fun q => (fun q => (fun q => HKZ.out.2 (HK5.out.2 q)) (HK4.out.2 q)) (HK3.out.2 q)) (HK2.out.2 q)) (fun h1 => PrV.stepT h1 HK2.out.1 (fun q => (fun q => (fun q => HKZ.out.2 (HK5.out.2 q)) (HK4.out.2 q)) (HK3.out.2 q)) (fun h2 => PrV.stepV (HK3.out.1 h2) (fun q => (fun q => HKZ.out.2 (HK5.out.2 q)) (HK4.out.2 q)) (fun h3 => PrV.stepT h3 HK4.out.1 (fun q => HKZ.out.2 (HK5.out.2 q)) (fun h4 => PrV.stepV (by rw [HL.out.2]; exact HK5.out.1 h4) HKZ.out.2 (fun h5 => PrV.last (HKZ.out.1 h5))))))
  have HF : Hid _ := hF
  clear hF HKZ HK1 HP1 HK2 HP2 HK3 HP3 HK4 HP4 HK5 HP5 HP0 HL
  obtain ⟨g0, g1, g2, _⟩ := HZ.out.x.cells
  obtain ⟨⟨c0, c1, c2, c3, c4, c5, c6, c7⟩, f0, f1, f2, f3, f4, f5, f6, f7⟩ := blk8 HZ.out.y
  obtain ⟨⟨e0, e1, e2, e3, e4, e5, e6, e7⟩, i0, i1, i2, i3, i4, i5, i6, i7⟩ := blk8 HZ.out.r
  cases bz
  · by_cases hlt : pz < s.size
    · have d1 : decide ((pz : Int) < (s.size : Int)) = true := by simp; omega
      go_wp2_with fail
      go_quiet (fail)
      go_wp2_with fail
      obtain ⟨U, hU, hx, hb, _⟩ := put8 (X := w.heap.size) (PZ.drewN HZ.out nq).hb (Nat.le_refl _) (PZ.drewN HZ.out nq).r (.int .i64 0) (.int .i64 0) (.int .i64 0) (.int .i64 0) (.int .i64 0) (.int .i64 0) (.bool false) (.int .i64 0)
      rw [hU]
      obtain ⟨⟨k0, k1, k2, k3, k4, k5, k6, k7⟩, _⟩ := blk8 hx
      exact bodyPost_ret (v := .tuple #[moV z0, .int .i64 2]) (by simp [results, Tryz.results45, go_sem, k0, k1, k2, k3, k4, k5, k6, k7]) rfl (PaQ.no (HF.out.no (.inr hlt)) hb)
    · have d1 : decide ((pz : Int) < (s.size : Int)) = false := by simp; omega
      go_wp2_with fail
      go_quiet (fail)
      go_wp2_with fail
      obtain ⟨U, hU, hx, hb, _⟩ := put8 (X := w.heap.size) (PZ.drewN HZ.out nq).hb (Nat.le_refl _) (PZ.drewN HZ.out nq).r (.int .i64 6) (.int .i64 2000) (.int .i64 v3) (.int .i64 v5) (.int .i64 0) (.int .i64 0) (.bool hz) (.int .i64 z)
      rw [hU]
      obtain ⟨⟨k0, k1, k2, k3, k4, k5, k6, k7⟩, _⟩ := blk8 hx
      exact bodyPost_ret (v := .tuple #[moV ⟨6, 2000, v3, v5, 0, 0, hz, z⟩, .int .i64 0]) (by simp [results, Tryz.results45, go_sem, k0, k1, k2, k3, k4, k5, k6, k7]) rfl (PaQ.yes (by rw [HF.out.ok hlt, nx_not (by simp)]) hb)
  · go_wp2_with fail
    go_quiet (fail)
    go_wp2_with fail
    obtain ⟨U, hU, hx, hb, _⟩ := put8 (X := w.heap.size) (PZ.drewN HZ.out nq).hb (Nat.le_refl _) (PZ.drewN HZ.out nq).r (.int .i64 0) (.int .i64 0) (.int .i64 0) (.int .i64 0) (.int .i64 0) (.int .i64 0) (.bool false) (.int .i64 0)
    rw [hU]
    obtain ⟨⟨k0, k1, k2, k3, k4, k5, k6, k7⟩, _⟩ := blk8 hx
    exact bodyPost_ret (v := .tuple #[moV z0, .int .i64 2]) (by simp [results, Tryz.results45, go_sem, k0, k1, k2, k3, k4, k5, k6, k7]) rfl (PaQ.no (HF.out.no (.inl rfl)) hb)
end Go.Proofs.YtgaegajcejpmdaaGreatDoor.Dt
namespace Go.Proofs.YtgaegajcejpmdaaGreatDoor.Dt
open Go.RowKit
set_option linter.unusedVariables false

set_option maxRecDepth 8000 in
set_option maxHeartbeats 4000000 in
theorem parse_r7 (s : ByteArray) (w : World) (hs : s.size ≤ maxLen) : Calls Tryz.prog 45 #[.int .i64 7, .string s] w fun e w' => PaQ (prM 7 (bl s)) w e w' := by
  have hnum := hs
  unfold maxLen at hnum
  go_enter Tryz.func45, Tryz.ntmps45
  go_upto_region 15 with fail
  obtain ⟨W0, hW0, HP0'⟩ := PZ.ex (PZ.init w s 7)
  rw [hW0]
  have HP0 : Hid _ := HP0'
  clear hW0 HP0'
  go_wp2_with fail
  refine Calls.mono (take_r (w.heap.size + 1) s 0 false 45 _ HP0.out.x hs HP0.out.le) ?_
  rintro e w1 ⟨p1, b1, rfl, r1, k1⟩
  have HP1 : Hid _ := HP0.out.rp r1
  have HK1 : Hid _ := And.intro k1 r1.st
  clear r1 k1
  go_wp2_with fail
  refine Calls.mono (take_r (w.heap.size + 1) s p1 b1 45 _ HP1.out.x hs HP1.out.le) ?_
  rintro e w2 ⟨p2, b2, rfl, r2, k2⟩
  have HP2 : Hid _ := HP1.out.rp r2
  have HK2 : Hid _ := And.intro k2 r2.st
  clear r2 k2
  go_wp2_with fail
  refine Calls.mono (take_r (w.heap.size + 1) s p2 b2 45 _ HP2.out.x hs HP2.out.le) ?_
  rintro e w3 ⟨p3, b3, rfl, r3, k3⟩
  have HP3 : Hid _ := HP2.out.rp r3
  have HK3 : Hid _ := And.intro k3 r3.st
  clear r3 k3
  go_wp2_with fail
  refine Calls.mono (in_r (w.heap.size + 1) s p3 b3 1 31 _ HP3.out.x hs HP3.out.le) ?_
  rintro e w4 ⟨p4, b4, v4, rfl, r4, v4l, v4h, k4⟩
  have HP4' : Hid _ := HP3.out.rp r4
  have HK4 : Hid _ := And.intro k4 r4.st
  clear r4 k4
  obtain ⟨⟨c0, c1, c2, c3, c4, c5, c6, c7⟩, f0, f1, f2, f3, f4, f5, f6, f7⟩ := blk8 HP4'.out.y
  go_upto_region 26 with fail
  obtain ⟨W4, hW4, HQ4⟩ := PZ.ex (PZ.setY HP4'.out 3 (.int .i64 v4) (a' := ⟨7, 2000, 1, v4, 0, 0, false, 0⟩) rfl)
  rw [hW4]
  have HP4 : Hid _ := HQ4
  clear hW4 HQ4 HP4' c0 c1 c2 c3 c4 c5 c6 c7 f0 f1 f2 f3 f4 f5 f6 f7
  go_wp2_with fail
  refine Calls.mono (zone_r (w.heap.size + 1) (w.heap.size + 1 + 1) s p4 b4 7 2000 1 v4 0 0 _ HP4.out.zs hs) ?_
  rintro e wz ⟨pz, bz, hz, z, rfl, zz, stz, zl, zh, kz⟩
  have HZ : Hid _ := HP4.out.ofz zz
  have HKZ : Hid _ := And.intro kz stz
  clear zz kz stz
  dsimp only at HZ
  have hF : PrV (prM 7 (bl s)) s pz bz (nxM ⟨7, 2000, 1, v4, 0, 0, hz, z⟩) := by
    rw [pr_7]
    exact PrV.stepT rfl HK1.out.1 (fun q => (fun q => (fun q => HKZ.out.2 (HK4.out.2 q)) (HK3.out.2 q)) (HK2.out.2 q)) (fun h1 => PrV.stepT h1 HK2.out.1 (fun q => (fun q => HKZ.out.2 (HK4.out.2 q)) (HK3.out.2 q)) (fun h2 => PrV.stepT h2 HK3.out.1 (fun q => HKZ.out.2 (HK4.out.2 q)) (fun h3 => PrV.stepV (HK4.out.1 h3) HKZ.out.2 (fun h4 => PrV.last (HKZ.out.1 h4)))))
  have HF : Hid _ := hF
  clear hF HKZ HK1 HP1 HK2 HP2 HK3 HP3 HK4 HP4 HP0
  obtain ⟨g0, g1, g2, _⟩ := HZ.out.x.cells
  obtain ⟨⟨c0, c1, c2, c3, c4, c5, c6, c7⟩, f0, f1, f2, f3, f4, f5, f6, f7⟩ := blk8 HZ.out.y
  obtain ⟨⟨e0, e1, e2, e3, e4, e5, e6, e7⟩, i0, i1, i2, i3, i4, i5, i6, i7⟩ := blk8 HZ.out.r
  cases bz
  · by_cases hlt : pz < s.size
    · have d1 : decide ((pz : Int) < (s.size : Int)) = true := by simp; omega
      go_wp2_with fail
      go_quiet (fail)
      go_wp2_with fail
      obtain ⟨U, hU, hx, hb, _⟩ := put8 (X := w.heap.size) (PZ.drewN HZ.out nq).hb (Nat.le_refl _) (PZ.drewN HZ.out nq).r (.int .i64 0) (.int .i64 0) (.int .i64 0) (.int .i64 0) (.int .i64 0) (.int .i64 0) (.bool false) (.int .i64 0)
      rw [hU]
      obtain ⟨⟨k0, k1, k2, k3, k4, k5, k6, k7⟩, _⟩ := blk8 hx
      exact bodyPost_ret (v := .tuple #[moV z0, .int .i64 2]) (by simp [results, Tryz.results45, go_sem, k0, k1, k2, k3, k4, k5, k6, k7]) rfl (PaQ.no (HF.out.no (.inr hlt)) hb)
    · have d1 : decide ((pz : Int) < (s.size : Int)) = false := by simp; omega
      go_wp2_with fail
      go_quiet (fail)
      go_wp2_with fail
      obtain ⟨U, hU, hx, hb, _⟩ := put8 (X := w.heap.size) (PZ.drewN HZ.out nq).hb (Nat.le_refl _) (PZ.drewN HZ.out nq).r (.int .i64 7) (.int .i64 2000) (.int .i64 1) (.int .i64 v4) (.int .i64 0) (.int .i64 0) (.bool hz) (.int .i64 z)
      rw [hU]
      obtain ⟨⟨k0, k1, k2, k3, k4, k5, k6, k7⟩, _⟩ := blk8 hx
      exact bodyPost_ret (v := .tuple #[moV ⟨7, 2000, 1, v4, 0, 0, hz, z⟩, .int .i64 0]) (by simp [results, Tryz.results45, go_sem, k0, k1, k2, k3, k4, k5, k6, k7]) rfl (PaQ.yes (by rw [HF.out.ok hlt, nx_not (by simp)]) hb)
  · go_wp2_with fail
    go_quiet (fail)
    go_wp2_with fail
    obtain ⟨U, hU, hx, hb, _⟩ := put8 (X := w.heap.size) (PZ.drewN HZ.out nq).hb (Nat.le_refl _) (PZ.drewN HZ.out nq).r (.int .i64 0) (.int .i64 0) (.int .i64 0) (.int .i64 0) (.int .i64 0) (.int .i64 0) (.bool false) (.int .i64 0)
    rw [hU]
    obtain ⟨⟨k0, k1, k2, k3, k4, k5, k6, k7⟩, _⟩ := blk8 hx
    exact bodyPost_ret (v := .tuple #[moV z0, .int .i64 2]) (by simp [results, Tryz.results45, go_sem, k0, k1, k2, k3, k4, k5, k6, k7]) rfl (PaQ.no (HF.out.no (.inl rfl)) hb)
end Go.Proofs.YtgaegajcejpmdaaGreatDoor.Dt
