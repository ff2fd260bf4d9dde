/- The reader in memory; its small functions. -/
import Derived.Test.YthlkbijpphdblaaZ3
import Derived.Test.YthlkbijpphdblaaZ5
import Derived.Test.YthlkbijpphdblaaP3
namespace Go.Proofs.Ythlkbijpphdblaa
open Go.RowKit
set_option linter.unusedVariables false

abbrev pp (P : Nat) : Value := .pointer (some ⟨P, 0, none⟩)
def flt (place err : Int) : List PanicEntry := [{ v := .iface 55 (.agg #[.int .i64 place, .int .i64 err]), recovered := false }]
/-- The pattern's bytes: they lie ahead of the reader. -/
structure BR (P : Nat) (w : World) (vb : Value) (l : Bs) : Prop where
  bt : ∀ i, 0 ≤ l.getD i 0 ∧ l.getD i 0 < 256
  fm : ∃ a cap, vb = .slice a l.length cap ∧ l.length ≤ cap ∧ cap ≤ maxLen ∧ (l = [] ∨ ∃ B, a = some ⟨B, 0, none⟩ ∧ B < P ∧ ∀ i, i < l.length → w.cell? ⟨B, i, none⟩ = some (.int .u8 (l.getD i 0)))
structure In (P : Nat) (w : World) (vb : Value) (l : Bs) (k o : Nat) : Prop where
  ps : w.heap[P]? = some (.cells #[vb, .int .i64 (k : Int), .int .i64 (o : Int)] 53 (0, 0))
  br : BR P w vb l
  kl : k ≤ l.length
  ll : l.length ≤ 4096
  oo : o ≤ 40
theorem cells3 {U : World} {X : Nat} {a b c : Value} {t : TypeId} (hx : U.heap[X]? = some (.cells #[a, b, c] t (0, 0))) : (U.cell? ⟨X, 0, none⟩ = some a ∧ U.cell? ⟨X, 1, none⟩ = some b ∧ U.cell? ⟨X, 2, none⟩ = some c) ∧ U.frozen? ⟨X, 0, none⟩ = false ∧ U.frozen? ⟨X, 1, none⟩ = false ∧ U.frozen? ⟨X, 2, none⟩ = false := by
  refine ⟨⟨?_, ?_, ?_⟩, ?_, ?_, ?_⟩ <;> simp [World.cell?, World.frozen?, hx]
theorem Fro.cell {O : Nat → Prop} {a b : World} (h : Fro O a b) {X i : Nat} {v : Value} (hc : a.cell? ⟨X, i, none⟩ = some v) (hO : ¬ O X) : b.cell? ⟨X, i, none⟩ = some v := by
  have hX : X < a.heap.size := by
    simp only [World.cell?] at hc
    cases e : a.heap[X]? with
    | none => rw [e] at hc; simp at hc
    | some o => exact lt_of e
  simp only [World.cell?] at hc ⊢
  rw [h.block X hX hO]
  exact hc
theorem BR.fro {P : Nat} {w w' : World} {vb : Value} {l : Bs} (h : BR P w vb l) (hf : Fro (fun k => k = P) w w') : BR P w' vb l := by
  obtain ⟨hb, a, cap, rfl, h1, h2, h3⟩ := h
  refine ⟨hb, a, cap, rfl, h1, h2, ?_⟩
  rcases h3 with h | ⟨B, rfl, hB, h⟩
  · exact .inl h
  · exact .inr ⟨B, rfl, hB, fun i hi => hf.cell (h i hi) (by omega)⟩
theorem In.below {P k o : Nat} {w w' : World} {vb : Value} {l : Bs} (h : In P w vb l k o) (hb : Below w.heap.size w w') : In P w' vb l k o :=
  ⟨(hb.block _ (lt_of h.ps)).trans h.ps, h.br.fro (Fro.below hb), h.kl, h.ll, h.oo⟩
/-- What only reads. -/
def Rd {α : Type} (w : World) (ret : α → Value) (r : R α) (e : Ending) (w' : World) : Prop := match r with
  | .ok a _ => e = .returned (ret a) ∧ ∃ m, w' = w.drewN m
  | .bad p er => e = .panicked (flt p er) ∧ ∃ m, w' = w.drewN m
/-- What goes on, with so many brackets open. -/
def Mv {α : Type} (P : Nat) (w : World) (vb : Value) (l : Bs) (o : Nat) (ret : α → Value) (r : R α) (e : Ending) (w' : World) : Prop := match r with
  | .ok a k => e = .returned (ret a) ∧ In P w' vb l k o ∧ Fro (fun j => j = P) w w'
  | .bad p er => e = .panicked (flt p er) ∧ Fro (fun j => j = P) w w'
abbrev ret0 : Unit → Value := fun _ => .tuple #[]
theorem bfro {w w' : World} {O : Nat → Prop} (h : Below w.heap.size w w') : Fro O w w' := Fro.below h
set_option maxHeartbeats 400000 in
theorem fail_p (P : Nat) (at' : Int) (w : World) : Calls Try.prog 38 #[pp P, .int .i64 at'] w fun e w' => e = .panicked (flt at' 2) ∧ w' = w := by
  go_enter Try.func38, Try.ntmps38
  go_wp2
  exact ⟨rfl, rfl, rfl⟩
set_option maxHeartbeats 400000 in
theorem ended_p {P k o : Nat} {w : World} {vb : Value} {l : Bs} (h : In P w vb l k o) : Calls Try.prog 37 #[pp P] w fun e w' => e = .returned (.bool (decide (k = l.length))) ∧ ∃ m, w' = w.drewN m := by
  obtain ⟨⟨c0, c1, c2⟩, f0, f1, f2⟩ := cells3 h.ps
  obtain ⟨a, cap, rfl, h1, h2, _⟩ := h.br.fm
  have hd : ((k : Int) == (l.length : Int)) = decide (k = l.length) := by rw [Bool.eq_iff_iff]; simp; omega
  go_enter Try.func37, Try.ntmps37
  go_wp2_with fail
  go_quiet (fail)
  go_wp2_with fail
  go_ret
  exact ⟨rfl, _, rfl⟩
theorem In.drewN {P k o : Nat} {w : World} {vb : Value} {l : Bs} (h : In P w vb l k o) (m : Nat) : In P (w.drewN m) vb l k o := ⟨h.ps, ⟨h.br.bt, h.br.fm⟩, h.kl, h.ll, h.oo⟩
theorem bts_drop {w : World} {B k : Nat} {l : Bs} (hb : ∀ i, 0 ≤ l.getD i 0 ∧ l.getD i 0 < 256) (h : ∀ i, i < l.length → w.cell? ⟨B, i, none⟩ = some (.int .u8 (l.getD i 0))) : Bts w (some ⟨B, k, none⟩) (l.drop k) := by
  have e : ∀ i, (l.drop k).getD i 0 = l.getD (k + i) 0 := fun i => by simp [List.getD_eq_getElem?_getD]
  refine ⟨fun i => by rw [e]; exact hb _, .inr ⟨B, k, rfl, fun i hi => ?_⟩⟩
  rw [e]
  rw [List.length_drop] at hi
  exact h (k + i) (by omega)
/-- The slice from a place on. -/
theorem dec_at {w : World} {B k cap : Nat} {l : Bs} (hk : k ≤ l.length) (hc : l.length ≤ cap) (hm : cap ≤ maxLen) (hb : ∀ i, 0 ≤ l.getD i 0 ∧ l.getD i 0 < 256) (h : ∀ i, i < l.length → w.cell? ⟨B, i, none⟩ = some (.int .u8 (l.getD i 0))) :
    Calls Try.prog 84 #[.slice (if cap = k then some ⟨B, 0, none⟩ else some ⟨B, k, none⟩) (l.length - k) (cap - k)] w fun e w' => e = .returned (.tuple #[.int .i32 (lt l k), .int .i64 (ln l k : Int)]) ∧ w' = w := by
  rw [← dec2_of]
  by_cases hck : cap = k
  · rw [if_pos hck]
    have e1 : l.drop k = [] := List.drop_eq_nil_of_le (by omega)
    have e3 : l.length - k = 0 := by omega
    unfold lt
    rw [e1, e3]
    exact dec_empty _ _ _
  · rw [if_neg hck]
    have q := decode_any (some ⟨B, k, none⟩) (l.drop k) (cap - k) w (by rw [List.length_drop]; omega) (by omega) (bts_drop hb h)
    rw [List.length_drop] at q
    exact q
abbrev lpV : Int × Nat → Value := fun p => .tuple #[.int .i32 p.1, .int .i64 (p.2 : Int)]
theorem let_ok {l : Bs} {j : Nat} (h : ¬ ln l j = 0) : letS l j = .ok (lt l j, ln l j) j := by unfold letS; rw [if_neg h]
theorem let_bad {l : Bs} {j : Nat} (h : ln l j = 0) : letS l j = .bad j 2 := by unfold letS; rw [if_pos h]
set_option maxHeartbeats 1000000 in
theorem letter_p {P k o : Nat} {w : World} {vb : Value} {l : Bs} (h : In P w vb l k o) (j : Nat) (hj : j ≤ l.length) : Calls Try.prog 71 #[pp P, .int .i64 (j : Int)] w fun e w' => Rd w lpV (letS l j) e w' := by
  obtain ⟨⟨c0, c1, c2⟩, f0, f1, f2⟩ := cells3 h.ps
  have hbt := h.br.bt
  have hll := h.ll
  obtain ⟨a, cap, rfl, h1, h2, h3⟩ := h.br.fm
  have qf := fun W => fail_p P (j : Int) W
  have hm := h2
  unfold maxLen at hm
  rcases h3 with rfl | ⟨B, rfl, hB, hcell⟩
  · have hj0 : j = 0 := by simpa using hj
    subst hj0
    rw [let_bad (by decide)]
    have q := dec_empty a cap w
    have HQ : Hid _ := And.intro q qf
    clear q qf h c1 c2 f0 f1 f2 hbt h2 hj h1 hll
    simp only [List.length_nil] at c0
    go_enter Try.func71, Try.ntmps71
    go_wp2_with fail
    refine Calls.mono HQ.out.1 ?_
    rintro e w1 ⟨rfl, hw⟩
    subst hw
    go_wp2_with fail
    refine Calls.mono (HQ.out.2 _) ?_
    rintro e w2 ⟨rfl, hw⟩
    subst hw
    exact ⟨rfl, rfl, 0, rfl⟩
  · have q := dec_at (B := B) hj h1 h2 hbt hcell
    clear h c1 c2 f0 f1 f2 hbt h2 hcell
    by_cases hck : cap = j
    · rw [if_pos hck] at q
      have hz : cap - j = 0 := by omega
      rw [hz] at q
      have hn : ln l j = 0 := by
        cases e : ln l j with
        | zero => rfl
        | succ n => have := ln_end (l := l) (k := j) (by omega); omega
      rw [let_bad hn]
      rw [hn] at q
      have HQ : Hid _ := And.intro q qf
      clear q qf hz hn
      go_enter Try.func71, Try.ntmps71
      go_wp2_with fail
      refine Calls.mono HQ.out.1 ?_
      rintro e w1 ⟨rfl, hw⟩
      subst hw
      go_wp2_with fail
      refine Calls.mono (HQ.out.2 _) ?_
      rintro e w2 ⟨rfl, hw⟩
      subst hw
      exact ⟨rfl, rfl, 0, rfl⟩
    · rw [if_neg hck] at q
      by_cases hn : ln l j = 0
      · rw [let_bad hn]
        rw [hn] at q
        have HQ : Hid _ := And.intro q qf
        clear q qf hn
        go_enter Try.func71, Try.ntmps71
        go_wp2_with fail
        refine Calls.mono HQ.out.1 ?_
        rintro e w1 ⟨rfl, hw⟩
        subst hw
        go_wp2_with fail
        refine Calls.mono (HQ.out.2 _) ?_
        rintro e w2 ⟨rfl, hw⟩
        subst hw
        exact ⟨rfl, rfl, 0, rfl⟩
      · rw [let_ok hn]
        have HQ : Hid _ := And.intro q qf
        have hz : ((ln l j : Int) == 0) = false := by simp; omega
        clear q qf
        generalize ln l j = n at *
        generalize lt l j = r at *
        go_enter Try.func71, Try.ntmps71
        go_wp2_with fail
        refine Calls.mono HQ.out.1 ?_
        rintro e w1 ⟨rfl, hw⟩
        subst hw
        go_wp2_with fail
        go_ret2
        exact ⟨rfl, 0, rfl⟩
abbrev rnV : Int → Value := fun r => .int .i32 r
set_option maxHeartbeats 400000 in
theorem peek_p {P k o : Nat} {w : World} {vb : Value} {l : Bs} (h : In P w vb l k o) : Calls Try.prog 58 #[pp P] w fun e w' => Rd w rnV (pkS l k) e w' := by
  obtain ⟨⟨c0, c1, c2⟩, f0, f1, f2⟩ := cells3 h.ps
  have q := letter_p h k h.kl
  unfold pkS
  cases hr : letS l k with
  | ok p k' =>
    rw [hr] at q
    have HQ : Hid _ := And.intro q trivial
    clear q hr
    go_enter Try.func58, Try.ntmps58
    go_wp2_with fail
    refine Calls.mono HQ.out.1 ?_
    rintro e w1 ⟨rfl, m, rfl⟩
    go_wp2_with fail
    go_ret
    exact ⟨rfl, m, rfl⟩
  | bad p er =>
    rw [hr] at q
    have HQ : Hid _ := And.intro q trivial
    clear q hr
    go_enter Try.func58, Try.ntmps58
    go_wp2_with fail
    refine Calls.mono HQ.out.1 ?_
    rintro e w1 ⟨rfl, m, rfl⟩
    exact ⟨rfl, rfl, m, rfl⟩
set_option maxHeartbeats 400000 in
theorem behind_p {P k o : Nat} {w : World} {vb : Value} {l : Bs} (h : In P w vb l k o) (hk : k < l.length) : Calls Try.prog 94 #[pp P] w fun e w' => Rd w rnV (pkS l (k + 1)) e w' := by
  obtain ⟨⟨c0, c1, c2⟩, f0, f1, f2⟩ := cells3 h.ps
  have q := letter_p h (k + 1) hk
  have hll := h.ll
  have hc : ((k + 1 : Nat) : Int) = (k : Int) + 1 := by omega
  rw [hc] at q
  unfold pkS
  cases hr : letS l (k + 1) with
  | ok p k' =>
    rw [hr] at q
    have HQ : Hid _ := And.intro q trivial
    clear q hr
    go_enter Try.func94, Try.ntmps94
    go_wp2_with fail
    refine Calls.mono HQ.out.1 ?_
    rintro e w1 ⟨rfl, m, rfl⟩
    go_wp2_with fail
    go_ret
    exact ⟨rfl, m, rfl⟩
  | bad p er =>
    rw [hr] at q
    have HQ : Hid _ := And.intro q trivial
    clear q hr
    go_enter Try.func94, Try.ntmps94
    go_wp2_with fail
    refine Calls.mono HQ.out.1 ?_
    rintro e w1 ⟨rfl, m, rfl⟩
    exact ⟨rfl, rfl, m, rfl⟩
end Go.Proofs.Ythlkbijpphdblaa
