/- Joined: HW0, HW1. -/
import Derived.WalkKit
namespace Go.Proofs.YtknfipcegmajaaaDoor
set_option linter.unusedVariables false
set_option linter.unusedSimpArgs false

abbrev Tx := List UInt8
theorem tx_irr (a : Tx) : ¬ a < a := List.lt_irrefl a
theorem tx_tr {a b c : Tx} (h : a < b) (h' : b < c) : a < c := List.lt_trans h h'
theorem tx_as {a b : Tx} (h : a < b) (h' : b < a) : False := tx_irr a (tx_tr h h')
theorem tx_tri {a b : Tx} (h : ¬ a < b) (h' : a ≠ b) : b < a := by
  rcases Std.Trichotomous.rel_or_eq_or_rel_swap (r := ((· < ·) : Tx → Tx → Prop)) (a := a) (b := b) with g | g | g
  · exact absurd g h
  · exact absurd g h'
  · exact g
def Inc (l : List Tx) : Prop := l.Pairwise (· < ·)
theorem inc_ext : ∀ {l m : List Tx}, Inc l → Inc m → (∀ x, x ∈ l ↔ x ∈ m) → l = m
  | [], [], _, _, _ => rfl
  | [], b :: m, _, _, h => by have := (h b).2 (by simp); simp at this
  | a :: l, [], _, _, h => by have := (h a).1 (by simp); simp at this
  | a :: l, b :: m, hl, hm, h => by
    rw [Inc, List.pairwise_cons] at hl hm
    have e : a = b := by
      rcases List.mem_cons.1 ((h a).1 (by simp)) with g | g
      · exact g
      · rcases List.mem_cons.1 ((h b).2 (by simp)) with g' | g'
        · exact g'.symm
        · exact (tx_as (hm.1 a g) (hl.1 b g')).elim
    subst e
    rw [inc_ext hl.2 hm.2 fun x => ⟨fun hx => ?_, fun hx => ?_⟩]
    · rcases List.mem_cons.1 ((h x).1 (by simp [hx])) with g | g
      · subst g; exact (tx_irr _ (hl.1 _ hx)).elim
      · exact g
    · rcases List.mem_cons.1 ((h x).2 (by simp [hx])) with g | g
      · subst g; exact (tx_irr _ (hm.1 _ hx)).elim
      · exact g
theorem inc_nil : Inc [] := .nil
theorem inc_one (a : Tx) : Inc [a] := by simp [Inc]
theorem nil_lt {a : Tx} (h : a ≠ []) : ([] : Tx) < a := by
  cases a with
  | nil => exact absurd rfl h
  | cons x l => exact .nil
theorem inc_two {a : Tx} (h : a ≠ []) : Inc [[], a] := by simp [Inc, nil_lt h]
theorem inc_filter {l : List Tx} (h : Inc l) (p : Tx → Bool) : Inc (l.filter p) := List.Pairwise.filter p h

/-- A text put into a row that rises. -/
def rput : List Tx → Tx → List Tx
  | [], s => [s]
  | a :: l, s => if a < s then a :: rput l s else if a = s then a :: l else s :: a :: l
theorem mem_rput {x s : Tx} : ∀ {l : List Tx}, x ∈ rput l s ↔ x = s ∨ x ∈ l
  | [] => by simp [rput]
  | a :: l => by
    have ih := mem_rput (x := x) (s := s) (l := l)
    unfold rput
    by_cases h : a < s
    · rw [if_pos h, List.mem_cons, ih, List.mem_cons]; constructor <;> rintro (g | g | g) <;> simp [g]
    · rw [if_neg h]
      by_cases h' : a = s
      · rw [if_pos h', List.mem_cons]; subst h'; constructor <;> rintro (g | g) <;> simp_all
      · rw [if_neg h']; simp
theorem inc_rput {s : Tx} : ∀ {l : List Tx}, Inc l → Inc (rput l s)
  | [], _ => by simp [rput, Inc]
  | a :: l, h => by
    rw [Inc, List.pairwise_cons] at h
    unfold rput
    by_cases g : a < s
    · rw [if_pos g, Inc, List.pairwise_cons]
      refine ⟨fun x hx => ?_, inc_rput h.2⟩
      rcases mem_rput.1 hx with e | e
      · rw [e]; exact g
      · exact h.1 x e
    · rw [if_neg g]
      by_cases g' : a = s
      · rw [if_pos g', Inc, List.pairwise_cons]; exact h
      · rw [if_neg g', Inc, List.pairwise_cons]
        have := tx_tri g g'
        refine ⟨fun x hx => ?_, by rw [List.pairwise_cons]; exact h⟩
        rcases List.mem_cons.1 hx with e | e
        · rw [e]; exact this
        · exact tx_tr this (h.1 x e)
def rs (l : List Tx) : List Tx := l.foldl rput []
theorem mem_foldput {x : Tx} : ∀ {m l : List Tx}, x ∈ m.foldl rput l ↔ x ∈ l ∨ x ∈ m
  | [], l => by simp
  | a :: m, l => by rw [List.foldl_cons, mem_foldput, mem_rput, List.mem_cons, or_comm (a := x = a), or_assoc]
theorem inc_foldput : ∀ {m l : List Tx}, Inc l → Inc (m.foldl rput l)
  | [], l, h => h
  | a :: m, l, h => by rw [List.foldl_cons]; exact inc_foldput (inc_rput h)
theorem mem_rs {x : Tx} {l : List Tx} : x ∈ rs l ↔ x ∈ l := by rw [rs, mem_foldput]; simp
theorem inc_rs (l : List Tx) : Inc (rs l) := inc_foldput inc_nil
theorem rs_of {l m : List Tx} (hm : Inc m) (h : ∀ x, x ∈ m ↔ x ∈ l) : m = rs l := inc_ext hm (inc_rs l) fun x => by rw [h, mem_rs]
theorem rs_self {l : List Tx} (h : Inc l) : rs l = l := (rs_of h fun _ => Iff.rfl).symm
theorem fold_rs {l m : List Tx} (h : Inc l) : m.foldl rput l = rs (l ++ m) := rs_of (inc_foldput h) fun x => by rw [mem_foldput, List.mem_append]

/-- A set of spaces: those of a row, or all others. -/
structure Sp where
  o : Bool
  l : List Tx
def Sp.has (s : Sp) (x : Tx) : Bool := decide (x ∈ s.l) != s.o
def Sp.mem (s : Sp) : Option Tx → Bool
  | none => s.o
  | some x => s.has x
def Sp.not (s : Sp) : Sp := ⟨!s.o, s.l⟩
theorem mem_not (s : Sp) (z : Option Tx) : s.not.mem z = !s.mem z := by
  cases z with
  | none => rfl
  | some x => simp only [Sp.mem, Sp.has, Sp.not]; by_cases h : x ∈ s.l <;> cases s.o <;> simp [h]
def chosen (l : List Tx) (s : Sp) : List Tx := l.filter s.has
def bothS (a b : Sp) : Sp := if a.o = false then ⟨false, chosen a.l b⟩ else if b.o = false then ⟨false, chosen b.l a⟩ else ⟨true, rs (a.l ++ b.l)⟩
theorem mem_both (a b : Sp) (z : Option Tx) : (bothS a b).mem z = (a.mem z && b.mem z) := by
  unfold bothS
  cases ha : a.o
  · rw [if_pos rfl]
    cases z with
    | none => simp [Sp.mem, ha]
    | some x => by_cases h : x ∈ a.l <;> by_cases h' : x ∈ b.l <;> cases hb : b.o <;> simp [Sp.mem, Sp.has, chosen, ha, hb, h, h']
  · rw [if_neg (by decide)]
    cases hb : b.o
    · rw [if_pos rfl]
      cases z with
      | none => simp [Sp.mem, hb]
      | some x => by_cases h : x ∈ b.l <;> by_cases h' : x ∈ a.l <;> simp [Sp.mem, Sp.has, chosen, ha, hb, h, h']
    · rw [if_neg (by decide)]
      cases z with
      | none => simp [Sp.mem, ha, hb]
      | some x => simp [Sp.mem, Sp.has, mem_rs, ha, hb]
theorem inc_both {a b : Sp} (ha : Inc a.l) (hb : Inc b.l) : Inc (bothS a b).l := by
  unfold bothS
  split
  · exact inc_filter ha _
  · split
    · exact inc_filter hb _
    · exact inc_rs _
def Sp.empty (s : Sp) : Bool := !s.o && s.l.isEmpty
theorem empty_iff (s : Sp) : s.empty = true ↔ ∀ z, s.mem z = false := by
  cases s with
  | mk o l =>
    constructor
    · intro h z
      simp only [Sp.empty, Bool.and_eq_true, Bool.not_eq_true', List.isEmpty_iff] at h
      obtain ⟨rfl, rfl⟩ := h
      cases z <;> simp [Sp.mem, Sp.has]
    · intro h
      have h0 : o = false := h none
      subst h0
      cases l with
      | nil => rfl
      | cons a l => have := h (some a); simp [Sp.mem, Sp.has] at this

/-- A wildcard. -/
structure Wd where
  how : Int
  nt : Tx
  sp : List Tx
  pr : Int
deriving DecidableEq
def Wd.zero : Wd := ⟨0, [], [], 0⟩
def alw (w : Wd) : Sp :=
  if w.how = 1 then ⟨true, []⟩ else if w.how = 2 then (if w.nt = [] then ⟨true, [[]]⟩ else ⟨true, [[], w.nt]⟩) else if w.how = 3 then ⟨false, w.sp⟩ else ⟨false, []⟩
def saidS (s : Sp) (p : Int) : Wd × Bool :=
  if s.o = false then (⟨3, [], s.l, p⟩, true) else if s.l = [] then (⟨1, [], [], p⟩, true)
  else if s.l.length ≤ 2 ∧ s.l.headD [1] = [] then (⟨2, s.l.getLastD [], [], p⟩, true) else (Wd.zero, false)
def bothP (a b : Wd) : Wd × Bool := saidS (bothS (alw a) (alw b)) a.pr
def unionP (a b : Wd) : Wd × Bool := saidS (bothS (alw a).not (alw b).not).not a.pr
def subP (a b : Wd) : Bool := (bothS (alw a) (alw b).not).empty
def sameP (a b : Wd) : Bool := decide (a.how = b.how ∧ a.nt = b.nt ∧ a.pr = b.pr ∧ a.sp = b.sp)
structure Wr (w : Wd) : Prop where
  how : w.how = 1 ∨ w.how = 2 ∨ w.how = 3
  nt : w.how ≠ 2 → w.nt = []
  sp : w.how ≠ 3 → w.sp = []
  inc : Inc w.sp
  pr : 1 ≤ w.pr ∧ w.pr ≤ 3
theorem inc_alw {w : Wd} (h : Wr w) : Inc (alw w).l := by
  unfold alw
  split
  · exact inc_nil
  · split
    · split
      · exact inc_one _
      · rename_i g; exact inc_two g
    · split
      · exact h.inc
      · exact inc_nil
theorem sub_iff (a b : Wd) : subP a b = true ↔ ∀ z, (alw a).mem z = true → (alw b).mem z = true := by
  rw [subP, empty_iff]
  constructor
  · intro h z hz
    have := h z
    rw [mem_both, mem_not, hz] at this
    simpa using this
  · intro h z
    rw [mem_both, mem_not]
    cases g : (alw a).mem z
    · rfl
    · rw [h z g]; rfl
theorem sub_refl (a : Wd) : subP a a = true := (sub_iff a a).2 fun _ h => h
theorem sub_trans {a b c : Wd} (h : subP a b = true) (h' : subP b c = true) : subP a c = true := (sub_iff a c).2 fun z hz => (sub_iff b c).1 h' z ((sub_iff a b).1 h z hz)
/-- What is said allows just the set; and it is a wildcard. -/
theorem said_ok {s : Sp} {p : Int} (hs : Inc s.l) (hp : 1 ≤ p ∧ p ≤ 3) (h : (saidS s p).2 = true) : alw (saidS s p).1 = s ∧ Wr (saidS s p).1 := by
  cases s with
  | mk o l =>
    unfold saidS at h ⊢
    dsimp only at *
    cases o
    · simp only [↓reduceIte, ite_true]
      exact ⟨rfl, ⟨.inr (.inr rfl), fun _ => rfl, fun g => absurd rfl g, hs, hp⟩⟩
    · rw [if_neg (by decide)] at h ⊢
      by_cases h0 : l = []
      · subst h0; exact ⟨rfl, ⟨.inl rfl, fun _ => rfl, fun _ => rfl, inc_nil, hp⟩⟩
      · rw [if_neg h0] at h ⊢
        by_cases h1 : l.length ≤ 2 ∧ l.headD [1] = []
        · rw [if_pos h1]
          refine ⟨?_, ⟨.inr (.inl rfl), fun g => absurd rfl g, fun _ => rfl, inc_nil, hp⟩⟩
          match l, h0, h1, hs with
          | [a], _, h1, _ =>
            have : a = [] := h1.2
            subst this
            rfl
          | [a, b], _, h1, hs =>
            have : a = [] := h1.2
            subst this
            have hb : b ≠ [] := by
              rintro rfl
              simp [Inc] at hs
            show alw ⟨2, b, [], p⟩ = _
            simp [alw, hb]
          | a :: b :: c :: l, _, h1, _ => have := h1.1; simp at this
        · rw [if_neg h1] at h; simp at h
end Go.Proofs.YtknfipcegmajaaaDoor
namespace Go.Proofs.YtknfipcegmajaaaDoor
set_option linter.unusedVariables false
set_option linter.unusedSimpArgs false

def rallows (w : Wd) (s : Tx) : Bool := if w.how = 1 then true else if w.how = 2 then (decide (s ≠ []) && decide (s ≠ w.nt)) else decide (s ∈ w.sp)
def rsub (a b : Wd) : Bool := if a.how = 3 then a.sp.all (rallows b) else decide (b.how = 1 ∨ a.how = 2 ∧ b.how = 2 ∧ (b.nt = [] ∨ a.nt = b.nt))
def rsame (a b : Wd) : Bool := decide (a.pr = b.pr) && (rsub a b && rsub b a)
def rboth (a b : Wd) : Wd × Bool :=
  if a.how = 1 then ({ b with pr := a.pr }, true) else if b.how = 1 then (a, true)
  else if a.how = 3 then (⟨3, [], a.sp.filter (rallows b), a.pr⟩, true)
  else if b.how = 3 then (⟨3, [], b.sp.filter (rallows a), a.pr⟩, true)
  else if a.nt = b.nt ∨ b.nt = [] then (a, true) else if a.nt = [] then ({ b with pr := a.pr }, true) else (Wd.zero, false)
def runionO (o t : Wd) (p : Int) : Wd × Bool :=
  if rallows t [] = true ∧ (o.nt = [] ∨ rallows t o.nt = true) then (⟨1, [], [], p⟩, true) else if rallows t [] = true then (Wd.zero, false)
  else if o.nt = [] ∨ rallows t o.nt = true then (⟨2, [], [], p⟩, true) else (⟨2, o.nt, [], p⟩, true)
def runion (a b : Wd) : Wd × Bool :=
  if a.how = 1 ∨ b.how = 1 then (⟨1, [], [], a.pr⟩, true)
  else if a.how = 3 ∧ b.how = 3 then (⟨3, [], b.sp.foldl rput a.sp, a.pr⟩, true)
  else if a.how = 2 ∧ b.how = 2 then (if a.nt = b.nt then (a, true) else (⟨2, [], [], a.pr⟩, true))
  else if a.how = 3 then runionO b a a.pr else runionO a b a.pr

/-- The three kinds of wildcards that are right. -/
theorem wr_cases {w : Wd} (h : Wr w) : (∃ p, w = ⟨1, [], [], p⟩) ∨ (∃ n p, w = ⟨2, n, [], p⟩) ∨ (∃ l p, w = ⟨3, [], l, p⟩ ∧ Inc l) := by
  rcases w with ⟨how, nt, sp, pr⟩
  have h1 := h.how
  have h2 := h.nt
  have h3 := h.sp
  have h4 := h.inc
  dsimp only at *
  rcases h1 with rfl | rfl | rfl
  · exact .inl ⟨pr, by rw [h2 (by decide), h3 (by decide)]⟩
  · exact .inr (.inl ⟨nt, pr, by rw [h3 (by decide)]⟩)
  · exact .inr (.inr ⟨sp, pr, by rw [h2 (by decide)], h4⟩)
theorem alw1 (p : Int) : alw ⟨1, [], [], p⟩ = ⟨true, []⟩ := rfl
theorem alw2 (n : Tx) (p : Int) : alw ⟨2, n, [], p⟩ = ⟨true, if n = [] then [[]] else [[], n]⟩ := by
  unfold alw; simp; split <;> rfl
theorem alw3 (l : List Tx) (p : Int) : alw ⟨3, [], l, p⟩ = ⟨false, l⟩ := rfl
theorem ral1 (p : Int) (s : Tx) : rallows ⟨1, [], [], p⟩ s = true := rfl
theorem ral2 (n : Tx) (p : Int) (s : Tx) : rallows ⟨2, n, [], p⟩ s = (decide (s ≠ []) && decide (s ≠ n)) := rfl
theorem ral3 (l : List Tx) (p : Int) (s : Tx) : rallows ⟨3, [], l, p⟩ s = decide (s ∈ l) := rfl
theorem has_ral {w : Wd} (h : Wr w) (s : Tx) : (alw w).has s = rallows w s := by
  rcases wr_cases h with ⟨p, rfl⟩ | ⟨n, p, rfl⟩ | ⟨l, p, rfl, _⟩
  · rfl
  · rw [alw2, ral2, Sp.has]
    by_cases h0 : s = [] <;> by_cases h1 : s = n <;> by_cases h2 : n = [] <;> simp_all
  · rw [alw3, ral3, Sp.has]; simp
theorem sub_eq {a b : Wd} (ha : Wr a) (hb : Wr b) : subP a b = rsub a b := by
  rcases wr_cases ha with ⟨p, rfl⟩ | ⟨n, p, rfl⟩ | ⟨l, p, rfl, _⟩
  · rw [subP, alw1]
    rcases wr_cases hb with ⟨q, rfl⟩ | ⟨m, q, rfl⟩ | ⟨k, q, rfl, _⟩
    · rfl
    · rw [alw2]; by_cases h : m = [] <;> simp [bothS, Sp.not, Sp.empty, chosen, Sp.has, rsub, h]
    · rw [alw3]; simp [bothS, Sp.not, Sp.empty, rsub]
  · rw [subP, alw2]
    rcases wr_cases hb with ⟨q, rfl⟩ | ⟨m, q, rfl⟩ | ⟨k, q, rfl, _⟩
    · rw [alw1]; simp [bothS, Sp.not, Sp.empty, rsub, chosen]
    · rw [alw2]
      by_cases e : n = m
      · subst e
        by_cases h : n = [] <;> simp [bothS, Sp.not, Sp.empty, chosen, Sp.has, rsub, h]
      · have e' : ¬ m = n := fun g => e g.symm
        by_cases h : m = []
        · subst h
          have e2 : ¬ [] = n := e'
          simp [bothS, Sp.not, Sp.empty, chosen, Sp.has, rsub, e, e2]
        · by_cases h' : n = [] <;> simp [bothS, Sp.not, Sp.empty, chosen, Sp.has, rsub, e, e', h, h']
    · rw [alw3]; simp [bothS, Sp.not, Sp.empty, rsub]
  · rw [subP, alw3]
    have : rsub ⟨3, [], l, p⟩ b = l.all (rallows b) := rfl
    rw [this, bothS, if_pos rfl, Sp.empty, chosen]
    rw [Bool.eq_iff_iff]
    simp only [Bool.not_false, Bool.true_and, List.isEmpty_iff, List.filter_eq_nil_iff, List.all_eq_true]
    constructor
    · intro h x hx
      have := h x hx
      rw [show (alw b).not.has x = (alw b).not.mem (some x) from rfl, mem_not] at this
      rw [← has_ral hb]
      simpa [Sp.mem] using this
    · intro h x hx
      rw [show (alw b).not.has x = (alw b).not.mem (some x) from rfl, mem_not]
      have := h x hx
      rw [← has_ral hb] at this
      simp [Sp.mem, this]
theorem rsame_refl {a : Wd} (h : Wr a) : rsame a a = true := by
  rw [rsame, ← sub_eq h h, sub_refl]; simp
theorem same_eq {a b : Wd} (ha : Wr a) (hb : Wr b) : sameP a b = rsame a b := by
  rw [Bool.eq_iff_iff]
  constructor
  · intro h
    rw [sameP, decide_eq_true_eq] at h
    have e : a = b := by
      rcases a with ⟨a1, a2, a3, a4⟩
      rcases b with ⟨b1, b2, b3, b4⟩
      obtain ⟨h1, h2, h3, h4⟩ := h
      dsimp only at *
      rw [h1, h2, h3, h4]
    subst e
    exact rsame_refl ha
  · intro h
    rw [rsame, Bool.and_eq_true, Bool.and_eq_true, decide_eq_true_eq, ← sub_eq ha hb, ← sub_eq hb ha] at h
    obtain ⟨hp, h1, h2⟩ := h
    rw [sub_iff] at h1 h2
    have hm : ∀ z, (alw a).mem z = (alw b).mem z := fun z => by rw [Bool.eq_iff_iff]; exact ⟨h1 z, h2 z⟩
    have ho : (alw a).o = (alw b).o := hm none
    have hl : (alw a).l = (alw b).l := inc_ext (inc_alw ha) (inc_alw hb) fun x => by
      have := hm (some x)
      simp only [Sp.mem, Sp.has, ho] at this
      by_cases h : x ∈ (alw a).l <;> by_cases h' : x ∈ (alw b).l <;> simp_all
    have he : alw a = alw b := by
      revert ho hl
      cases alw a; cases alw b
      rintro rfl rfl; rfl
    rw [sameP, decide_eq_true_eq]
    rcases wr_cases ha with ⟨p, rfl⟩ | ⟨n, p, rfl⟩ | ⟨l, p, rfl, _⟩ <;> rcases wr_cases hb with ⟨q, rfl⟩ | ⟨m, q, rfl⟩ | ⟨k, q, rfl, _⟩ <;> simp only [alw1, alw2, alw3, Sp.mk.injEq] at he <;> dsimp only at hp ⊢
    · exact ⟨rfl, rfl, hp, rfl⟩
    · have := he.2; split at this <;> simp at this
    · simp at he
    · have := he.2; split at this <;> simp at this
    · refine ⟨rfl, ?_, hp, rfl⟩
      have := he.2
      by_cases g : n = [] <;> by_cases g' : m = [] <;> simp_all
    · simp at he
    · simp at he
    · simp at he
    · exact ⟨rfl, rfl, hp, he.2⟩
theorem both_eq {a b : Wd} (ha : Wr a) (hb : Wr b) : bothP a b = rboth a b := by
  have hr := fun s => has_ral hb s
  have hs := fun s => has_ral ha s
  rcases wr_cases ha with ⟨p, rfl⟩ | ⟨n, p, rfl⟩ | ⟨l, p, rfl, hl⟩
  · rcases wr_cases hb with ⟨q, rfl⟩ | ⟨m, q, rfl⟩ | ⟨k, q, rfl, hk⟩
    · rfl
    · have e : rs (if m = [] then [[]] else [[], m]) = if m = [] then [[]] else [[], m] := rs_self (by split; exact inc_one _; exact inc_two (by assumption))
      rw [bothP, alw1, alw2]
      simp only [bothS, List.nil_append, e]
      by_cases h : m = [] <;> simp [saidS, rboth, h]
    · rw [bothP, alw1, alw3]
      simp only [bothS]
      have : chosen k ⟨true, []⟩ = k := by
        unfold chosen
        exact List.filter_eq_self.2 fun x _ => by simp [Sp.has]
      simp [saidS, rboth, this]
  · rcases wr_cases hb with ⟨q, rfl⟩ | ⟨m, q, rfl⟩ | ⟨k, q, rfl, hk⟩
    · have e : rs (if n = [] then [[]] else [[], n]) = if n = [] then [[]] else [[], n] := rs_self (by split; exact inc_one _; exact inc_two (by assumption))
      rw [bothP, alw1, alw2]
      simp only [bothS, List.append_nil, e]
      by_cases h : n = [] <;> simp [saidS, rboth, h]
    · rw [bothP, alw2, alw2]
      by_cases h : n = [] <;> by_cases h' : m = []
      · subst h; subst h'
        rfl
      · have e : rs ([[]] ++ [[], m]) = [[], m] := (rs_of (inc_two h') (by simp)).symm
        subst h
        simp only [bothS, h', ↓reduceIte, e, reduceCtorEq, Bool.true_eq_false]
        have h'' : ¬ [] = m := fun g => h' g.symm
        simp [saidS, rboth, h', h'']
      · have e : rs ([[], n] ++ [[]]) = [[], n] := (rs_of (inc_two h) (by intro x; simp only [List.mem_cons, List.mem_append, List.not_mem_nil, or_false]; constructor <;> intro g <;> rcases g with g | g <;> simp_all)).symm
        subst h'
        simp only [bothS, h, ↓reduceIte, e, reduceCtorEq, Bool.true_eq_false]
        simp [saidS, rboth, h]
      · by_cases hnm : n = m
        · subst hnm
          have e : rs ([[], n] ++ [[], n]) = [[], n] := (rs_of (inc_two h) (by intro x; simp only [List.mem_cons, List.mem_append, List.not_mem_nil, or_false]; constructor <;> intro g <;> rcases g with g | g <;> simp_all)).symm
          simp only [bothS, h, ↓reduceIte, e, reduceCtorEq, Bool.true_eq_false]
          simp [saidS, rboth, h]
        · have : ¬ (rs ([[], n] ++ [[], m])).length ≤ 2 := by
            intro hle
            have hi := inc_rs ([[], n] ++ [[], m])
            have hm := fun x => mem_rs (x := x) (l := [[], n] ++ [[], m])
            revert hle hi hm
            generalize rs ([[], n] ++ [[], m]) = r
            intro hle hi hm
            have h1 := (hm []).2 (by simp)
            have h2 := (hm n).2 (by simp)
            have h3 := (hm m).2 (by simp)
            match r, hle with
            | [], _ => simp at h1
            | [x], _ => simp at h1 h2 h3; exact h (h2.trans h1)
            | [x, y], _ =>
              simp at h1 h2 h3
              rcases h1 with h1 | h1 <;> rcases h2 with h2 | h2 <;> rcases h3 with h3 | h3 <;> simp_all
          have g : rs ([[], n] ++ [[], m]) ≠ [] := by intro g; rw [g] at this; simp at this
          simp only [bothS, h, h', ↓reduceIte, reduceCtorEq, Bool.true_eq_false]
          rw [saidS, if_neg (by simp), if_neg g, if_neg (fun c => this c.1)]
          simp [rboth, hnm, h, h']
    · rw [bothP, alw3]
      rw [bothS, if_neg (by rw [alw2]; simp), if_pos rfl]
      simp only [saidS, rboth]
      simp only [chosen]
      simp [List.filter_congr (fun x _ => hs x)]
  · rw [bothP, alw3]
    rw [bothS, if_pos rfl]
    have e : chosen l (alw b) = l.filter (rallows b) := List.filter_congr (fun x _ => hr x)
    rw [saidS, if_pos rfl]
    dsimp only
    rw [e]
    rcases wr_cases hb with ⟨q, rfl⟩ | ⟨m, q, rfl⟩ | ⟨k, q, rfl, hk⟩
    · simp [rboth]; simp [rallows]
    · simp [rboth]
    · simp [rboth]
theorem unionO_eq {n : Tx} {l : List Tx} {p q r : Int} : saidS (bothS (Sp.not ⟨true, if n = [] then [[]] else [[], n]⟩) (Sp.not ⟨false, l⟩)).not r = runionO ⟨2, n, [], p⟩ ⟨3, [], l, q⟩ r := by
  simp only [Sp.not, bothS, runionO, ral3, chosen]
  by_cases h : n = [] <;> by_cases h1 : ([] : Tx) ∈ l <;> by_cases h2 : n ∈ l <;> simp_all [Sp.has, saidS]
theorem unionO_eq' {n : Tx} {l : List Tx} {p q r : Int} : saidS (bothS (Sp.not ⟨false, l⟩) (Sp.not ⟨true, if n = [] then [[]] else [[], n]⟩)).not r = runionO ⟨2, n, [], p⟩ ⟨3, [], l, q⟩ r := by
  rw [← unionO_eq (p := p) (q := q)]
  simp [Sp.not, bothS]
theorem union_eq {a b : Wd} (ha : Wr a) (hb : Wr b) : unionP a b = runion a b := by
  rcases wr_cases ha with ⟨p, rfl⟩ | ⟨n, p, rfl⟩ | ⟨l, p, rfl, hl⟩
  · rw [unionP, alw1]
    simp [runion, bothS, Sp.not, chosen, saidS]
  · rcases wr_cases hb with ⟨q, rfl⟩ | ⟨m, q, rfl⟩ | ⟨k, q, rfl, hk⟩
    · rw [unionP, alw1, alw2]
      simp [runion, bothS, Sp.not, chosen, saidS, Sp.has]
    · rw [unionP, alw2, alw2]
      by_cases e : n = m
      · subst e
        by_cases h : n = [] <;> simp [runion, bothS, Sp.not, chosen, saidS, Sp.has, h]
      · have e' : ¬ m = n := fun g => e g.symm
        by_cases h : m = []
        · subst h
          have e2 : ¬ [] = n := e'
          simp [runion, bothS, Sp.not, chosen, saidS, Sp.has, e, e2]
        · by_cases h' : n = [] <;> simp [runion, bothS, Sp.not, chosen, saidS, Sp.has, e, e', h, h']
    · rw [unionP, alw2, alw3, unionO_eq (p := p) (q := q)]
      simp [runion]
  · rcases wr_cases hb with ⟨q, rfl⟩ | ⟨m, q, rfl⟩ | ⟨k, q, rfl, hk⟩
    · rw [unionP, alw1, alw3]
      simp [runion, bothS, Sp.not, chosen, saidS, Sp.has]
    · rw [unionP, alw2, alw3, unionO_eq' (p := q) (q := p)]
      simp [runion]
    · rw [unionP, alw3, alw3]
      simp [runion, bothS, Sp.not, saidS, fold_rs hl]
theorem both_wr {a b : Wd} (ha : Wr a) (hb : Wr b) (h : (bothP a b).2 = true) : Wr (bothP a b).1 ∧ ∀ z, (alw (bothP a b).1).mem z = ((alw a).mem z && (alw b).mem z) := by
  obtain ⟨h1, h2⟩ := said_ok (inc_both (inc_alw ha) (inc_alw hb)) ha.pr h
  exact ⟨h2, fun z => by rw [bothP, h1, mem_both]⟩
theorem union_wr {a b : Wd} (ha : Wr a) (hb : Wr b) (h : (unionP a b).2 = true) : Wr (unionP a b).1 ∧ ∀ z, (alw (unionP a b).1).mem z = ((alw a).mem z || (alw b).mem z) := by
  obtain ⟨h1, h2⟩ := said_ok (s := (bothS (alw a).not (alw b).not).not) (inc_both (a := (alw a).not) (b := (alw b).not) (inc_alw ha) (inc_alw hb)) ha.pr h
  exact ⟨h2, fun z => by rw [unionP, h1, mem_not, mem_both, mem_not, mem_not]; cases (alw a).mem z <;> cases (alw b).mem z <;> rfl⟩
end Go.Proofs.YtknfipcegmajaaaDoor
