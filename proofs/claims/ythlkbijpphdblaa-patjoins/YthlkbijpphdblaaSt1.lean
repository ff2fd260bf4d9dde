/- Sets of letters: plain: the second telling's put and Of; opposites; what both have; sizes. -/
import Derived.Test.YthlkbijpphdblaaSt0
namespace Go.Proofs.Ythlkbijpphdblaa
set_option linter.unusedVariables false

/-- What put still appends. -/
def putG : Bool → Rg → List Rg → List Rg
  | false, r, [] => [r]
  | true, _, [] => []
  | d, r, x :: l => if x.2 < r.1 - 1 then x :: putG d r l else if r.2 + 1 < x.1 then (if d = true then x :: putG true r l else r :: x :: putG true r l) else putG d (min x.1 r.1, max x.2 r.2) l
theorem put_nil (d : Bool) (r : Rg) : putG d r [] = if d = true then [] else [r] := by cases d <;> rfl
theorem put_cons (d : Bool) (r x : Rg) (l : List Rg) : putG d r (x :: l) = if x.2 < r.1 - 1 then x :: putG d r l else if r.2 + 1 < x.1 then (if d = true then x :: putG true r l else r :: x :: putG true r l) else putG d (min x.1 r.1, max x.2 r.2) l := by cases d <;> rfl
theorem put_done : ∀ (l : List Rg) (r : Rg), Cn l → r.1 ≤ r.2 → (∀ x ∈ l, r.2 + 1 < x.1) → putG true r l = l
  | [], r, _, _, _ => rfl
  | x :: l, r, h, hr, hx => by
    have h1 := hx x (by simp)
    have h2 := h.head
    rw [put_cons, if_neg (by omega), if_pos h1, if_pos rfl, put_done l r h.tail hr (fun y hy => hx y (by simp [hy]))]
theorem put_ok : ∀ (l : List Rg) (r : Rg), Cn l → (0 ≤ r.1 ∧ r.1 ≤ r.2 ∧ r.2 ≤ MX) → Cn (putG false r l) ∧ (∀ x, memB (putG false r l) x = (memB l x || inR r x)) ∧ ∀ b, b ≤ r.1 → (∀ y ∈ l, b ≤ y.1) → ∀ y ∈ putG false r l, b ≤ y.1
  | [], r, _, hr => by
    rw [put_nil]
    refine ⟨Cn.one hr, fun x => by simp [mem_cons, mem_nil], fun b hb _ y hy => ?_⟩
    simp at hy
    subst hy
    exact hb
  | x :: l, r, h, hr => by
    obtain ⟨h1, h2⟩ := h.head
    rw [put_cons]
    by_cases c1 : x.2 < r.1 - 1
    · rw [if_pos c1]
      obtain ⟨i1, i2, i3⟩ := put_ok l r h.tail hr
      refine ⟨Cn.cons (i3 (x.2 + 2) (by omega) h1) h2 i1, fun y => by rw [mem_cons, i2, mem_cons, Bool.or_assoc], fun b hb hy y hq => ?_⟩
      rcases List.mem_cons.1 hq with rfl | hq
      · exact hy _ (by simp)
      · exact i3 b hb (fun z hz => hy z (by simp [hz])) y hq
    · rw [if_neg c1]
      by_cases c2 : r.2 + 1 < x.1
      · rw [if_pos c2, if_neg (by simp), put_done l r h.tail hr.2.1 (fun y hy => by have := h1 y hy; omega)]
        refine ⟨Cn.cons (fun y hy => ?_) hr h, fun y => by rw [mem_cons, Bool.or_comm], fun b hb hy y hq => ?_⟩
        · rcases List.mem_cons.1 hy with rfl | hy
          · omega
          · have := h1 y hy; omega
        · rcases List.mem_cons.1 hq with rfl | hq
          · exact hb
          · exact hy y hq
      · rw [if_neg c2]
        obtain ⟨i1, i2, i3⟩ := put_ok l (min x.1 r.1, max x.2 r.2) h.tail (by simp only []; omega)
        refine ⟨i1, fun y => ?_, fun b hb hy y hq => ?_⟩
        · rw [i2, mem_cons]
          have e : inR (min x.1 r.1, max x.2 r.2) y = (inR x y || inR r y) := by
            rw [Bool.eq_iff_iff, Bool.or_eq_true, inR_iff, inR_iff, inR_iff]
            simp only []
            omega
          rw [e]
          cases inR x y <;> cases memB l y <;> simp
        · refine i3 b ?_ (fun z hz => hy z (by simp [hz])) y hq
          have := hy x (by simp)
          simp only []
          omega
/-- The second telling's Of. -/
def ofR (l : List Rg) : List Rg := (cut l).foldl (fun s r => putG false r s) []
theorem ofR_ok (l : List Rg) : OfS l (ofR l) := by
  have key : ∀ (l s : List Rg), (∀ r ∈ l, 0 ≤ r.1 ∧ r.1 ≤ r.2 ∧ r.2 ≤ MX) → Cn s → Cn (l.foldl (fun s r => putG false r s) s) ∧ ∀ x, memB (l.foldl (fun s r => putG false r s) s) x = (memB s x || memB l x) := by
    intro l
    induction l with
    | nil => intro s _ h; exact ⟨h, fun x => by rw [mem_nil]; simp⟩
    | cons r l ih =>
      intro s hk h
      obtain ⟨h1, h2, _⟩ := put_ok s r h (hk r (by simp))
      obtain ⟨i1, i2⟩ := ih (putG false r s) (fun x hx => hk x (by simp [hx])) h1
      refine ⟨i1, fun x => ?_⟩
      rw [List.foldl_cons, i2, h2, mem_cons, Bool.or_assoc]
  obtain ⟨a, b⟩ := key (cut l) [] (fun r hr => cut_ok hr) Cn.nil
  exact ⟨a, fun x => by unfold ofR; rw [b, mem_nil, mem_cut]; simp⟩
/-- The gaps, from f on. -/
def gapL : Int → List Rg → List Rg
  | f, [] => [(f, MX)]
  | f, r :: l => (f, r.1 - 1) :: gapL (r.2 + 1) l
theorem gap_mem : ∀ (l : List Rg) (f : Int), Cn l → (∀ r ∈ l, f ≤ r.1) → ∀ x, memB (gapL f l) x = (decide (f ≤ x ∧ x ≤ MX) && !memB l x)
  | [], f, _, _, x => by
    rw [gapL, mem_cons, mem_nil, Bool.eq_iff_iff]
    simp [inR_iff]
  | r :: l, f, h, hf, x => by
    obtain ⟨h1, h2⟩ := h.head
    have hfr := hf r (by simp)
    rw [gapL, mem_cons, gap_mem l (r.2 + 1) h.tail (fun y hy => by have := h1 y hy; omega) x, mem_cons]
    have hl : memB l x = true → r.2 + 2 ≤ x := mem_lo h1
    rw [Bool.eq_iff_iff]
    cases e : memB l x with
    | false =>
      simp only [Bool.or_eq_true, Bool.and_eq_true, inR_iff, decide_eq_true_eq, Bool.not_false, Bool.or_false, Bool.not_eq_true', and_true]
      rw [← Bool.not_eq_true, inR_iff]
      omega
    | true =>
      have := hl e
      simp only [Bool.or_eq_true, Bool.and_eq_true, inR_iff, decide_eq_true_eq, Bool.not_true, Bool.or_true, Bool.false_eq_true, and_false, or_false]
      constructor
      · intro q; omega
      · intro q; exact q.elim
/-- Opposites. -/
structure NotS (l s : List Rg) : Prop where
  cn : Cn s
  mem : ∀ x, memB s x = (decide (0 ≤ x ∧ x ≤ MX) && !memB l x)
theorem not_of {l s : List Rg} (hl : Cn l) (h : OfS (gapL 0 l) s) : NotS l s := ⟨h.cn, fun x => by
  rw [h.mem, gap_mem l 0 hl (fun r hr => (hl.ok r hr).1) x]
  cases decide (0 ≤ x ∧ x ≤ MX) <;> simp⟩
/-- The second telling's opposite. -/
def notR : Int → List Rg → List Rg
  | f, [] => if f ≤ MX then [(f, MX)] else []
  | f, r :: l => if f < r.1 then (f, r.1 - 1) :: notR (r.2 + 1) l else notR (r.2 + 1) l
theorem notR_ok : ∀ (l : List Rg) (f : Int), 0 ≤ f → Cn l → (∀ r ∈ l, f ≤ r.1) → Cn (notR f l) ∧ (∀ x, memB (notR f l) x = (decide (f ≤ x ∧ x ≤ MX) && !memB l x)) ∧ ∀ y ∈ notR f l, f ≤ y.1
  | [], f, f0, _, _ => by
    rw [notR]
    split
    · rename_i h
      refine ⟨Cn.one ⟨f0, h, by simp⟩, fun x => ?_, by simp⟩
      rw [mem_cons, mem_nil, Bool.eq_iff_iff]
      simp [inR_iff]
    · rename_i h
      refine ⟨Cn.nil, fun x => ?_, by simp⟩
      rw [mem_nil, decide_eq_false (by omega)]
      simp
  | r :: l, f, f0, h, hf => by
    obtain ⟨h1, h2⟩ := h.head
    have hfr := hf r (by simp)
    obtain ⟨i1, i2, i3⟩ := notR_ok l (r.2 + 1) (by omega) h.tail (fun y hy => by have := h1 y hy; omega)
    have hl : ∀ x, memB l x = true → r.2 + 2 ≤ x := fun x => mem_lo h1
    have hmem : ∀ x, (inR (f, r.1 - 1) x || memB (notR (r.2 + 1) l) x) = (decide (f ≤ x ∧ x ≤ MX) && !memB (r :: l) x) := fun x => by
      rw [i2, mem_cons, Bool.eq_iff_iff]
      cases e : memB l x with
      | false =>
        simp only [Bool.or_eq_true, Bool.and_eq_true, inR_iff, decide_eq_true_eq, Bool.not_false, Bool.or_false, Bool.not_eq_true', and_true]
        rw [← Bool.not_eq_true, inR_iff]
        omega
      | true =>
        have := hl x e
        simp only [Bool.or_eq_true, Bool.and_eq_true, inR_iff, decide_eq_true_eq, Bool.not_true, Bool.or_true, Bool.false_eq_true, and_false, or_false]
        constructor
        · intro q; omega
        · intro q; exact q.elim
    rw [notR]
    split
    · rename_i hlt
      refine ⟨Cn.cons (fun y hy => by have := i3 y hy; simp only []; omega) (by simp only []; omega) i1, fun x => by rw [mem_cons]; exact hmem x, fun y hy => ?_⟩
      rcases List.mem_cons.1 hy with rfl | hy
      · exact Int.le_refl _
      · have := i3 y hy; omega
    · rename_i hlt
      refine ⟨i1, fun x => ?_, fun y hy => by have := i3 y hy; omega⟩
      rw [← hmem x]
      have : inR (f, r.1 - 1) x = false := by
        cases e : inR (f, r.1 - 1) x with
        | false => rfl
        | true => have := inR_iff.1 e; simp only [] at this; omega
      rw [this]
      rfl
theorem notR_S {l : List Rg} (h : Cn l) : NotS l (notR 0 l) := by
  obtain ⟨a, b, _⟩ := notR_ok l 0 (by omega) h (fun r hr => (h.ok r hr).1)
  exact ⟨a, b⟩
theorem NotS.eq {l s s' : List Rg} (h : NotS l s) (h' : NotS l s') : s = s' := cn_ext s s' h.cn h'.cn (fun x => by rw [h.mem, h'.mem])
/-- What both have, as the program finds it. -/
def bothL : Nat → List Rg → List Rg → List Rg
  | n + 1, r :: a, s :: b => (max r.1 s.1, min r.2 s.2) :: (if r.2 < s.2 then bothL n a (s :: b) else bothL n (r :: a) b)
  | _, _, _ => []
theorem both_nil1 (n : Nat) (b : List Rg) : bothL n [] b = [] := by cases n <;> rfl
theorem both_nil2 (n : Nat) (a : List Rg) : bothL n a [] = [] := by cases n <;> cases a <;> rfl
theorem both_mem : ∀ (n : Nat) (a b : List Rg), a.length + b.length ≤ n → Cn a → Cn b → ∀ x, memB (bothL n a b) x = (memB a x && memB b x)
  | n, [], b, _, _, _, x => by rw [both_nil1, mem_nil]; simp
  | n, r :: a, [], _, _, _, x => by rw [both_nil2, mem_nil]; simp
  | 0, r :: a, s :: b, h, _, _, x => by simp at h
  | n + 1, r :: a, s :: b, h, ha, hb, x => by
    obtain ⟨a1, a2⟩ := ha.head
    obtain ⟨b1, b2⟩ := hb.head
    have la : memB a x = true → r.2 + 2 ≤ x := mem_lo a1
    have lb : memB b x = true → s.2 + 2 ≤ x := mem_lo b1
    simp only [List.length_cons] at h
    have hi : inR (max r.1 s.1, min r.2 s.2) x = (inR r x && inR s x) := by
      rw [Bool.eq_iff_iff, Bool.and_eq_true, inR_iff, inR_iff, inR_iff]
      simp only []
      omega
    rw [bothL, mem_cons, hi]
    split
    · rename_i c
      rw [both_mem n a (s :: b) (by simp only [List.length_cons]; omega) ha.tail hb x, mem_cons, mem_cons]
      cases e1 : inR r x with
      | false => simp
      | true =>
        have q := inR_iff.1 e1
        have : memB b x = false := by
          cases e : memB b x with
          | false => rfl
          | true => have := lb e; omega
        rw [this]
        cases inR s x <;> cases memB a x <;> rfl
    · rename_i c
      rw [both_mem n (r :: a) b (by simp only [List.length_cons]; omega) ha hb.tail x, mem_cons, mem_cons]
      cases e1 : inR s x with
      | false => simp
      | true =>
        have q := inR_iff.1 e1
        have : memB a x = false := by
          cases e : memB a x with
          | false => rfl
          | true => have := la e; omega
        rw [this]
        cases inR r x <;> cases memB b x <;> rfl
/-! Sizes. -/
def sz (l : List Rg) : Int := l.foldl (fun n r => n + (r.2 - r.1 + 1)) 0
theorem sz_app : ∀ (l : List Rg) (n : Int), l.foldl (fun n r => n + (r.2 - r.1 + 1)) n = n + sz l := by
  intro l
  unfold sz
  induction l with
  | nil => intro n; simp
  | cons r l ih => intro n; rw [List.foldl_cons, List.foldl_cons, ih, ih (0 + _)]; omega
theorem sz_cons (r : Rg) (l : List Rg) : sz (r :: l) = (r.2 - r.1 + 1) + sz l := by
  show (r :: l).foldl _ 0 = _
  rw [List.foldl_cons, sz_app]; omega
/-- How many of the first n letters. -/
def cnt (p : Int → Bool) : Nat → Int
  | 0 => 0
  | n + 1 => cnt p n + if p (n : Int) = true then 1 else 0
theorem cnt_congr {p q : Int → Bool} : ∀ (n : Nat), (∀ x, 0 ≤ x → x < n → p x = q x) → cnt p n = cnt q n
  | 0, _ => rfl
  | n + 1, h => by rw [cnt, cnt, cnt_congr n (fun x h0 h1 => h x h0 (by omega)), h n (by omega) (by omega)]
theorem cnt_or (p q : Int → Bool) : ∀ n : Nat, cnt (fun x => p x || q x) n + cnt (fun x => p x && q x) n = cnt p n + cnt q n
  | 0 => rfl
  | n + 1 => by
    have ih := cnt_or p q n
    rw [cnt, cnt, cnt, cnt]
    cases p (n : Int) <;> cases q (n : Int) <;> simp <;> omega
theorem cnt_not (p : Int → Bool) : ∀ n : Nat, cnt p n + cnt (fun x => !p x) n = n
  | 0 => rfl
  | n + 1 => by
    have ih := cnt_not p n
    rw [cnt, cnt]
    cases p (n : Int) <;> simp <;> omega
theorem cnt_zero {p : Int → Bool} : ∀ (n : Nat), (∀ x, 0 ≤ x → x < n → p x = false) → cnt p n = 0
  | 0, _ => rfl
  | n + 1, h => by rw [cnt, cnt_zero n (fun x h0 h1 => h x h0 (by omega)), h n (by omega) (by omega)]; rfl
theorem cnt_range {r : Rg} (h0 : 0 ≤ r.1) (h1 : r.1 ≤ r.2) : ∀ n : Nat, cnt (inR r) n = if (n : Int) ≤ r.1 then 0 else if (n : Int) ≤ r.2 then n - r.1 else r.2 - r.1 + 1
  | 0 => by rw [cnt, if_pos (by omega)]
  | n + 1 => by
    rw [cnt, cnt_range h0 h1 n]
    have e : (inR r (n : Int) = true) = (r.1 ≤ (n : Int) ∧ (n : Int) ≤ r.2) := propext inR_iff
    simp only [e]
    split <;> split <;> (try split) <;> (try split) <;> (try split) <;> omega
abbrev NL : Nat := 1114112
theorem sz_cnt : ∀ (l : List Rg), Cn l → sz l = cnt (memB l) NL
  | [], _ => by rw [cnt_zero NL (fun x _ _ => mem_nil x)]; rfl
  | r :: l, h => by
    obtain ⟨h1, h2⟩ := h.head
    have e1 : cnt (memB (r :: l)) NL = cnt (fun x => inR r x || memB l x) NL := cnt_congr NL (fun x _ _ => mem_cons r l x)
    have e2 : cnt (fun x => inR r x && memB l x) NL = 0 := cnt_zero NL (fun x _ _ => by
      cases e : inR r x with
      | false => rfl
      | true =>
        have q := inR_iff.1 e
        cases e' : memB l x with
        | false => rfl
        | true => have := mem_lo h1 e'; omega)
    have e3 := cnt_or (inR r) (memB l) NL
    have e4 := cnt_range h2.1 h2.2.1 NL
    have hN : ((NL : Nat) : Int) = 1114112 := rfl
    have hM : MX = 1114111 := rfl
    rw [if_neg (by omega), if_neg (by omega)] at e4
    rw [sz_cons, sz_cnt l h.tail, e1]
    omega
theorem sz_in {l : List Rg} (h : Cn l) : 0 ≤ sz l ∧ sz l ≤ 1114112 := by
  have key : ∀ (p : Int → Bool) (n : Nat), 0 ≤ cnt p n ∧ cnt p n ≤ n := by
    intro p n
    induction n with
    | zero => exact ⟨Int.le_refl _, Int.le_refl _⟩
    | succ n ih => rw [cnt]; split <;> omega
  rw [sz_cnt l h]
  have := key (memB l) NL
  omega
/-- Right, as the program asks: from f on. -/
def rtB : Int → List Rg → Bool
  | _, [] => true
  | f, r :: l => !(decide (r.1 < f) || decide (r.2 < r.1) || decide (MX < r.2)) && rtB (r.2 + 2) l
theorem rt_iff : ∀ (l : List Rg) (f : Int), 0 ≤ f → (rtB f l = true ↔ Cn l ∧ ∀ r ∈ l, f ≤ r.1)
  | [], f, _ => by simp [rtB, Cn.nil]
  | r :: l, f, f0 => by
    rw [rtB, Bool.and_eq_true]
    simp only [Bool.not_eq_true', Bool.or_eq_false_iff, decide_eq_false_iff_not]
    constructor
    · rintro ⟨⟨⟨a, b⟩, c⟩, d⟩
      obtain ⟨i1, i2⟩ := (rt_iff l (r.2 + 2) (by omega)).1 d
      refine ⟨Cn.cons i2 (by omega) i1, fun x hx => ?_⟩
      rcases List.mem_cons.1 hx with rfl | hx
      · omega
      · have := i2 x hx; omega
    · rintro ⟨h, hf⟩
      obtain ⟨h1, h2⟩ := h.head
      have := hf r (by simp)
      exact ⟨⟨⟨by omega, by omega⟩, by omega⟩, (rt_iff l (r.2 + 2) (by omega)).2 ⟨h.tail, h1⟩⟩
theorem rt_cn {l : List Rg} (h : Cn l) : rtB 0 l = true := (rt_iff l 0 (by omega)).2 ⟨h, fun r hr => (h.ok r hr).1⟩
end Go.Proofs.Ythlkbijpphdblaa
