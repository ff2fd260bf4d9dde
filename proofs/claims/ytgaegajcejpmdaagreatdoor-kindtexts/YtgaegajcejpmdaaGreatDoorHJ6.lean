/- Joined: HDcNum1, HDcNum2, HDcNum3, HDcNum4, HDcQ0, HDcF0, HDtCal1, HDtCal2, HChSpec, HChSpec2, HDtCal0, HDtTxt1, HDtCal3, HDtTxt2. -/
namespace Go.Proofs.YtgaegajcejpmdaaGreatDoor.Dc
set_option linter.unusedVariables false

/-- A row of digits, the greatest first, as a number. -/
def dval (l : List Int) : Int := l.foldl (fun a d => a * 10 + d) 0
def Dg (l : List Int) : Prop := ∀ d ∈ l, 0 ≤ d ∧ d ≤ 9
abbrev p10 (n : Nat) : Int := (10 : Int) ^ n
theorem p10_pos (n : Nat) : 0 < p10 n := Int.pow_pos (by omega)
theorem p10_succ (n : Nat) : p10 (n + 1) = p10 n * 10 := Int.pow_succ _ _
theorem p10_add (a b : Nat) : p10 (a + b) = p10 a * p10 b := Int.pow_add _ _ _
theorem dval_snoc (l : List Int) (d : Int) : dval (l ++ [d]) = dval l * 10 + d := by
  unfold dval
  rw [List.foldl_append]
  rfl
theorem dfold (l : List Int) : ∀ a : Int, l.foldl (fun a d => a * 10 + d) a = a * p10 l.length + dval l := by
  induction l with
  | nil => intro a; simp [dval, p10]
  | cons d l ih =>
    intro a
    have e : dval (d :: l) = d * p10 l.length + dval l := by
      unfold dval
      rw [List.foldl_cons, ih]
      simp [dval]
    rw [List.foldl_cons, ih, e, List.length_cons, p10_succ]
    rw [Int.add_mul, Int.mul_assoc, Int.mul_comm 10 (p10 l.length), Int.add_assoc]
theorem dval_cons (d : Int) (l : List Int) : dval (d :: l) = d * p10 l.length + dval l := by
  have := dfold l d
  unfold dval at *
  rw [List.foldl_cons]
  simpa using this
theorem dval_nil : dval [] = 0 := rfl
theorem dval_append (a b : List Int) : dval (a ++ b) = dval a * p10 b.length + dval b := by
  unfold dval
  rw [List.foldl_append, dfold]
  rfl
theorem Dg.cons {d : Int} {l : List Int} (h : Dg (d :: l)) : (0 ≤ d ∧ d ≤ 9) ∧ Dg l := ⟨h d (by simp), fun x hx => h x (by simp [hx])⟩
theorem Dg.app {a b : List Int} (ha : Dg a) (hb : Dg b) : Dg (a ++ b) := fun d hd => by
  rcases List.mem_append.1 hd with h | h
  · exact ha d h
  · exact hb d h
theorem dval_bd : ∀ {l : List Int}, Dg l → 0 ≤ dval l ∧ dval l < p10 l.length
  | [], _ => by simp [dval_nil, p10]
  | d :: l, h => by
    obtain ⟨hd, hl⟩ := h.cons
    have ih := dval_bd hl
    have hp := p10_pos l.length
    rw [dval_cons, List.length_cons, p10_succ]
    have h1 : 0 ≤ d * p10 l.length := Int.mul_nonneg hd.1 (by omega)
    have h2 : d * p10 l.length ≤ 9 * p10 l.length := Int.mul_le_mul_of_nonneg_right hd.2 (by omega)
    omega
/-- Of two rows of a length the first that differs decides. -/
def lexS : List Int → List Int → Int
  | a :: aas, b :: bs => if a = b then lexS aas bs else if a < b then -1 else 1
  | _, _ => 0
theorem lex_val : ∀ {a b : List Int}, a.length = b.length → Dg a → Dg b → (lexS a b = -1 ∧ dval a < dval b) ∨ (lexS a b = 0 ∧ a = b) ∨ (lexS a b = 1 ∧ dval b < dval a)
  | [], [], _, _, _ => .inr (.inl ⟨rfl, rfl⟩)
  | a :: aas, b :: bs, hl, ha, hb => by
    obtain ⟨hd1, h1⟩ := ha.cons
    obtain ⟨hd2, h2⟩ := hb.cons
    have hl' : aas.length = bs.length := by simpa using hl
    have v1 := dval_bd h1
    have v2 := dval_bd h2
    rw [hl'] at v1
    have hp := p10_pos bs.length
    rw [dval_cons, dval_cons, hl', lexS]
    by_cases e : a = b
    · subst e
      rw [if_pos rfl]
      rcases lex_val hl' h1 h2 with ⟨q1, q2⟩ | ⟨q1, q2⟩ | ⟨q1, q2⟩
      · exact .inl ⟨q1, by omega⟩
      · exact .inr (.inl ⟨q1, by rw [q2]⟩)
      · exact .inr (.inr ⟨q1, by omega⟩)
    · rw [if_neg e]
      by_cases lt : a < b
      · rw [if_pos lt]
        have : (a + 1) * p10 bs.length ≤ b * p10 bs.length := Int.mul_le_mul_of_nonneg_right (by omega) (by omega)
        rw [Int.add_mul] at this
        exact .inl ⟨rfl, by omega⟩
      · rw [if_neg lt]
        have : (b + 1) * p10 bs.length ≤ a * p10 bs.length := Int.mul_le_mul_of_nonneg_right (by omega) (by omega)
        rw [Int.add_mul] at this
        exact .inr (.inr ⟨rfl, by omega⟩)
theorem row_uniq {a b : List Int} (hl : a.length = b.length) (ha : Dg a) (hb : Dg b) (h : dval a = dval b) : a = b := by
  rcases lex_val hl ha hb with ⟨_, q⟩ | ⟨_, q⟩ | ⟨_, q⟩
  · omega
  · exact q
  · omega
theorem dval_zero : ∀ {l : List Int}, Dg l → (dval l = 0 ↔ ∀ d ∈ l, d = 0)
  | [], _ => by simp [dval_nil]
  | d :: l, h => by
    obtain ⟨hd, hl⟩ := h.cons
    have ih := dval_zero hl
    have hv := dval_bd hl
    have hp := p10_pos l.length
    have h1 : 0 ≤ d * p10 l.length := Int.mul_nonneg hd.1 (by omega)
    rw [dval_cons]
    constructor
    · intro e x hx
      have h0 : d * p10 l.length = 0 := by omega
      have hd0 : d = 0 := by
        rcases Int.mul_eq_zero.1 h0 with q | q
        · exact q
        · omega
      rcases List.mem_cons.1 hx with q | q
      · rw [q]; exact hd0
      · exact ih.1 (by omega) x q
    · intro e
      have hd0 := e d (by simp)
      have := ih.2 (fun x hx => e x (by simp [hx]))
      rw [hd0, this]; simp
theorem dval_rep (n : Nat) : dval (List.replicate n 0) = 0 := by
  induction n with
  | zero => rfl
  | succ n ih => rw [List.replicate_succ, dval_cons, ih]; simp
theorem Dg.rep (n : Nat) : Dg (List.replicate n 0) := fun d hd => by
  have := (List.mem_replicate.1 hd).2
  omega
/-- Canonical digits with a scale. -/
structure Cn (l : List Int) (s : Nat) : Prop where
  dg : Dg l
  len : s + 1 ≤ l.length
  hd : l.length = s + 1 ∨ l.head? ≠ some 0
  lt : s = 0 ∨ l.getLast? ≠ some 0
theorem head_big {l : List Int} (h : Dg l) (hn : l ≠ []) (h0 : l.head? ≠ some 0) : p10 (l.length - 1) ≤ dval l := by
  cases l with
  | nil => exact absurd rfl hn
  | cons d l =>
    obtain ⟨hd, hl⟩ := h.cons
    have hv := dval_bd hl
    have hp := p10_pos l.length
    have h1 : d ≠ 0 := fun e => h0 (by rw [e]; rfl)
    have h2 : 1 * p10 l.length ≤ d * p10 l.length := Int.mul_le_mul_of_nonneg_right (by omega) (by omega)
    rw [dval_cons]
    show p10 l.length ≤ _
    omega
theorem last_mod {l : List Int} (hn : l ≠ []) : ∃ m d, l = m ++ [d] ∧ dval l = dval m * 10 + d ∧ l.getLast? = some d := by
  rcases List.eq_nil_or_concat l with e | ⟨m, d, e⟩
  · exact absurd e hn
  · have e' : l = m ++ [d] := by simpa using e
    exact ⟨m, d, e', by rw [e', dval_snoc], by rw [e']; simp⟩
theorem p10_mono {a b : Nat} (h : a ≤ b) : p10 a ≤ p10 b := by
  obtain ⟨c, rfl⟩ : ∃ c, b = a + c := ⟨b - a, by omega⟩
  rw [p10_add]
  have h1 := p10_pos a
  have h2 := p10_pos c
  have : p10 a * 1 ≤ p10 a * p10 c := Int.mul_le_mul_of_nonneg_left (by omega) (by omega)
  omega
theorem cn_scale {a b : List Int} {s t S : Nat} (ha : Cn a s) (hb : Cn b t) (h1 : s ≤ S) (h2 : t ≤ S) (h : dval a * p10 (S - s) = dval b * p10 (S - t)) : t ≤ s := by
  apply Classical.byContradiction
  intro hlt
  have e1 : S - s = (S - t) + (t - s) := by omega
  obtain ⟨k, hk⟩ : ∃ k, t - s = k + 1 := ⟨t - s - 1, by omega⟩
  rw [e1, p10_add, ← Int.mul_assoc, Int.mul_comm (dval a), Int.mul_assoc, Int.mul_comm (dval b)] at h
  have hp := p10_pos (S - t)
  have h3 : dval a * p10 (t - s) = dval b := Int.eq_of_mul_eq_mul_left (by omega) h
  rw [hk, p10_succ, ← Int.mul_assoc] at h3
  obtain ⟨m, d, hm, hv, hl⟩ := last_mod (l := b) (fun e => by have := hb.len; rw [e] at this; simp at this)
  have hd := hb.dg d (by rw [hm]; simp)
  have hd0 : d = 0 := by omega
  rcases hb.lt with q | q
  · omega
  · exact q (by rw [hl, hd0])
theorem cn_uniq {a b : List Int} {s t S : Nat} (ha : Cn a s) (hb : Cn b t) (h1 : s ≤ S) (h2 : t ≤ S) (h : dval a * p10 (S - s) = dval b * p10 (S - t)) : a = b ∧ s = t := by
  have q1 := cn_scale ha hb h1 h2 h
  have q2 := cn_scale hb ha h2 h1 h.symm
  have hst : s = t := by omega
  subst hst
  refine ⟨?_, rfl⟩
  have hp := p10_pos (S - s)
  have hv : dval a = dval b := Int.eq_of_mul_eq_mul_right (by omega) h
  have key : ∀ {x y : List Int}, Cn x s → Cn y s → dval x = dval y → y.length ≤ x.length := by
    intro x y hx hy e
    apply Classical.byContradiction
    intro hlt
    have hxl := hx.len
    have hyn : y ≠ [] := fun e => by rw [e] at hlt; simp at hlt
    rcases hy.hd with q | q
    · omega
    · have b1 := head_big hy.dg hyn q
      have b2 := (dval_bd hx.dg).2
      have b3 := p10_mono (a := x.length) (b := y.length - 1) (by omega)
      omega
  have l1 := key ha hb hv
  have l2 := key hb ha hv.symm
  exact row_uniq (by omega) ha.dg hb.dg hv
/-- A number: its sign, its digits, how many of them stand behind the point. -/
abbrev Nm := Bool × List Int × Nat
def CN (n : Nm) : Prop := Cn n.2.1 n.2.2 ∧ (n.1 = true → dval n.2.1 ≠ 0)
/-- Its worth, at a scale. -/
def nv (n : Nm) (S : Nat) : Int := if n.1 = true then -(dval n.2.1 * p10 (S - n.2.2)) else dval n.2.1 * p10 (S - n.2.2)
theorem nm_uniq {a b : Nm} {S : Nat} (ha : CN a) (hb : CN b) (h1 : a.2.2 ≤ S) (h2 : b.2.2 ≤ S) (h : nv a S = nv b S) : a = b := by
  obtain ⟨an, al, aas⟩ := a
  obtain ⟨bn, bl, bs⟩ := b
  obtain ⟨ca, za⟩ := ha
  obtain ⟨cb, zb⟩ := hb
  dsimp only at *
  unfold nv at h
  dsimp only at h
  have va := (dval_bd ca.dg).1
  have vb := (dval_bd cb.dg).1
  have pa := p10_pos (S - aas)
  have pb := p10_pos (S - bs)
  have ga : 0 ≤ dval al * p10 (S - aas) := Int.mul_nonneg va (by omega)
  have gb : 0 ≤ dval bl * p10 (S - bs) := Int.mul_nonneg vb (by omega)
  have na : an = true → dval al * p10 (S - aas) ≠ 0 := fun q e => by
    rcases Int.mul_eq_zero.1 e with r | r
    · exact za q r
    · omega
  have nb : bn = true → dval bl * p10 (S - bs) ≠ 0 := fun q e => by
    rcases Int.mul_eq_zero.1 e with r | r
    · exact zb q r
    · omega
  cases an <;> cases bn
  · simp only [Bool.false_eq_true, if_false] at h
    obtain ⟨q1, q2⟩ := cn_uniq ca cb h1 h2 h
    rw [q1, q2]
  · simp only [Bool.false_eq_true, if_false, if_true] at h
    have := nb rfl
    omega
  · simp only [Bool.false_eq_true, if_false, if_true] at h
    have := na rfl
    omega
  · simp only [if_true] at h
    obtain ⟨q1, q2⟩ := cn_uniq ca cb h1 h2 (by omega)
    rw [q1, q2]
theorem nv_up (n : Nm) {S T : Nat} (h : n.2.2 ≤ S) (hT : S ≤ T) : nv n T = nv n S * p10 (T - S) := by
  unfold nv
  have e : T - n.2.2 = (S - n.2.2) + (T - S) := by omega
  rw [e, p10_add, ← Int.mul_assoc]
  split
  · rw [Int.neg_mul]
  · rfl
end Go.Proofs.YtgaegajcejpmdaaGreatDoor.Dc
namespace Go.Proofs.YtgaegajcejpmdaaGreatDoor.Dc
set_option linter.unusedVariables false
set_option linter.unusedSimpArgs false

/-- Noughts struck behind the point. -/
def cT : Nat → List Int → List Int × Nat
  | 0, l => (l, 0)
  | s + 1, l => if l.getLast? = some 0 then cT s l.dropLast else (l, s + 1)
/-- Noughts struck ahead of the point. -/
def cH (s : Nat) : List Int → List Int
  | d :: l => if d = 0 ∧ s < l.length then cH s l else d :: l
  | [] => []
/-- Noughts laid ahead. -/
def cP (s : Nat) (l : List Int) : List Int := List.replicate (s + 1 - l.length) 0 ++ l
def canS (neg : Bool) (l : List Int) (s : Nat) : Nm :=
  (neg && !((cP (cT s l).2 (cH (cT s l).2 (cT s l).1)).all (· == 0)), cP (cT s l).2 (cH (cT s l).2 (cT s l).1), (cT s l).2)
theorem cT_ok : ∀ (s : Nat) (l : List Int), Dg l → s ≤ l.length → Dg (cT s l).1 ∧ (cT s l).2 ≤ s ∧ (cT s l).2 ≤ (cT s l).1.length ∧ dval (cT s l).1 * p10 (s - (cT s l).2) = dval l ∧ ((cT s l).2 = 0 ∨ (cT s l).1.getLast? ≠ some 0) ∧ (cT s l).1.length ≤ l.length
  | 0, l, h, hs => by simp [cT, h, p10]
  | s + 1, l, h, hs => by
    rw [cT]
    by_cases e : l.getLast? = some 0
    · rw [if_pos e]
      obtain ⟨m, d, hm, hv, hl⟩ := last_mod (l := l) (fun q => by rw [q] at hs; simp at hs)
      rw [e] at hl
      have hd : d = 0 := (Option.some.inj hl).symm
      subst hd
      have hdl : l.dropLast = m := by rw [hm]; simp
      have hml : l.length = m.length + 1 := by rw [hm]; simp
      have hmd : Dg m := fun x hx => h x (by rw [hm]; simp [hx])
      rw [hdl]
      obtain ⟨q1, q2, q3, q4, q5, q6⟩ := cT_ok s m hmd (by omega)
      refine ⟨q1, by omega, q3, ?_, q5, by omega⟩
      have e2 : s + 1 - (cT s m).2 = (s - (cT s m).2) + 1 := by omega
      rw [e2, p10_succ, ← Int.mul_assoc, q4, hv]
      omega
    · rw [if_neg e]
      refine ⟨h, Nat.le_refl _, hs, by simp [p10], .inr e, Nat.le_refl _⟩
theorem cH_ok (s : Nat) : ∀ (l : List Int), Dg l → Dg (cH s l) ∧ dval (cH s l) = dval l ∧ (cH s l).getLast? = l.getLast? ∧ (cH s l).length ≤ l.length ∧ ((cH s l).length ≤ s + 1 ∨ (cH s l).head? ≠ some 0) ∧ (s ≤ l.length → s ≤ (cH s l).length)
  | [], h => by simp [cH, h]
  | d :: l, h => by
    obtain ⟨hd, hl⟩ := h.cons
    rw [cH]
    by_cases e : d = 0 ∧ s < l.length
    · rw [if_pos e]
      obtain ⟨q1, q2, q3, q4, q5, q6⟩ := cH_ok s l hl
      obtain ⟨rfl, e2⟩ := e
      refine ⟨q1, ?_, ?_, by simp; omega, q5, fun _ => q6 (by omega)⟩
      · rw [q2, dval_cons]; simp
      · rw [q3]
        cases l with
        | nil => simp at e2
        | cons x l => simp
    · rw [if_neg e]
      refine ⟨h, rfl, rfl, Nat.le_refl _, ?_, fun q => q⟩
      by_cases hd0 : d = 0
      · left
        simp only [List.length_cons]
        have : ¬ s < l.length := fun q => e ⟨hd0, q⟩
        omega
      · right
        simp [hd0]
theorem cP_ok (s : Nat) (l : List Int) (h : Dg l) (hs : s ≤ l.length) (hh : l.length ≤ s + 1 ∨ l.head? ≠ some 0) (hl : s = 0 ∨ l.getLast? ≠ some 0) : Cn (cP s l) s ∧ dval (cP s l) = dval l ∧ (cP s l).length ≤ max l.length (s + 1) := by
  unfold cP
  have hlen : (List.replicate (s + 1 - l.length) (0 : Int) ++ l).length = s + 1 - l.length + l.length := by simp
  refine ⟨⟨(Dg.rep _).app h, by omega, ?_, ?_⟩, by rw [dval_append, dval_rep]; simp, by omega⟩
  · rcases hh with q | q
    · left; omega
    · by_cases e : l.length ≤ s
      · left; omega
      · right
        have e0 : s + 1 - l.length = 0 := by omega
        rw [e0]
        simpa using q
  · rcases hl with q | q
    · exact .inl q
    · by_cases e : l = []
      · left
        rw [e] at hs
        simpa using hs
      · right
        obtain ⟨m, d, hm, _, hg⟩ := last_mod e
        rw [hg] at q
        rw [hm, ← List.append_assoc, List.getLast?_concat]
        exact q
theorem all_zero {l : List Int} (h : Dg l) : l.all (· == 0) = true ↔ dval l = 0 := by
  rw [dval_zero h, List.all_eq_true]
  constructor
  · intro q d hd
    simpa using q d hd
  · intro q d hd
    simpa using q d hd
/-- What is made canonical is, and is worth the same. -/
theorem canS_ok (neg : Bool) (l : List Int) (s : Nat) (h : Dg l) (hs : s ≤ l.length) : CN (canS neg l s) ∧ (canS neg l s).2.2 ≤ s ∧ dval (canS neg l s).2.1 * p10 (s - (canS neg l s).2.2) = dval l ∧ ((canS neg l s).1 = true ↔ neg = true ∧ dval l ≠ 0) ∧ (canS neg l s).2.1.length ≤ max l.length (s + 1) := by
  obtain ⟨q1, q2, q3, q4, q5, q6⟩ := cT_ok s l h hs
  obtain ⟨r1, r2, r3, r4, r5, r6⟩ := cH_ok (cT s l).2 (cT s l).1 q1
  obtain ⟨c1, c2, c3⟩ := cP_ok (cT s l).2 (cH (cT s l).2 (cT s l).1) r1 (r6 q3) r5 (by rw [r3]; exact q5)
  have hz := all_zero c1.dg
  have hv : dval (canS neg l s).2.1 * p10 (s - (canS neg l s).2.2) = dval l := by
    show dval (cP _ _) * p10 (s - (cT s l).2) = _
    rw [c2, r2, q4]
  have hp := p10_pos (s - (cT s l).2)
  have hd0 : dval (cP (cT s l).2 (cH (cT s l).2 (cT s l).1)) = 0 ↔ dval l = 0 := by
    rw [← hv]
    show _ ↔ dval (cP _ _) * p10 (s - (cT s l).2) = 0
    rw [Int.mul_eq_zero]
    constructor
    · intro q; exact .inl q
    · rintro (q | q)
      · exact q
      · omega
  have hneg : (canS neg l s).1 = true ↔ neg = true ∧ dval l ≠ 0 := by
    show (neg && !_) = true ↔ _
    rw [Bool.and_eq_true, Bool.not_eq_true', ← Bool.not_eq_true, hz, hd0]
  refine ⟨⟨c1, fun e => ?_⟩, q2, hv, hneg, ?_⟩
  · intro q
    exact (hneg.1 e).2 (hd0.1 q)
  · show (cP _ _).length ≤ _
    omega
theorem canS_nv (neg : Bool) (l : List Int) (s : Nat) (h : Dg l) (hs : s ≤ l.length) : nv (canS neg l s) s = if neg = true then -(dval l) else dval l := by
  obtain ⟨c1, c2, c3, c4, c5⟩ := canS_ok neg l s h hs
  unfold nv
  rw [c3]
  by_cases hz : dval l = 0
  · rw [hz]; simp
  · cases neg
    · rw [if_neg (fun q => by have := (c4.1 q).1; simp at this)]; simp
    · rw [if_pos (c4.2 ⟨rfl, hz⟩)]; simp
/-- Digits read, with at most one point: them, how many stand behind it. -/
def scS : List Int → List Int → Nat → Bool → Option (List Int × Nat)
  | [], b, s, _ => some (b, s)
  | c :: l, b, s, p => if 48 ≤ c ∧ c ≤ 57 then scS l (b ++ [c - 48]) (if p = true then s + 1 else s) p else if c = 46 ∧ p = false then scS l b s true else none
def sgS : List Int → Bool × List Int
  | c :: l => if c = 43 then (false, l) else if c = 45 then (true, l) else (false, c :: l)
  | [] => (false, [])
/-- Parse: a number, or the error's number. -/
def parS (l : List Int) : Except Int Nm :=
  if 4096 < l.length then .error 3 else match scS (sgS l).2 [] 0 false with
    | none => .error 2
    | some (b, s) => if b = [] then .error 2 else .ok (canS (sgS l).1 b s)
theorem sc_t : ∀ (l b : List Int) (s : Nat) (r : List Int × Nat), Dg b → s ≤ b.length → scS l b s true = some r → Dg r.1 ∧ r.2 ≤ r.1.length ∧ r.1.length ≤ b.length + l.length
  | [], b, s, r, hb, hs, h => by
    simp only [scS, Option.some.injEq] at h
    subst h
    exact ⟨hb, hs, by simp⟩
  | c :: l, b, s, r, hb, hs, h => by
    rw [scS] at h
    by_cases hc : 48 ≤ c ∧ c ≤ 57
    · rw [if_pos hc, if_pos rfl] at h
      obtain ⟨q1, q2, q3⟩ := sc_t l _ _ r (hb.app (fun d hd => by simp at hd; omega)) (by simp; omega) h
      simp at q3
      exact ⟨q1, q2, by simp; omega⟩
    · rw [if_neg hc, if_neg (by simp)] at h
      simp at h
theorem sc_f : ∀ (l b : List Int) (r : List Int × Nat), Dg b → scS l b 0 false = some r → Dg r.1 ∧ r.2 ≤ r.1.length ∧ r.1.length ≤ b.length + l.length ∧ (r.2 = 0 ∨ r.1.length + 1 ≤ b.length + l.length)
  | [], b, r, hb, h => by
    simp only [scS, Option.some.injEq] at h
    subst h
    exact ⟨hb, Nat.zero_le _, by simp, .inl rfl⟩
  | c :: l, b, r, hb, h => by
    rw [scS] at h
    by_cases hc : 48 ≤ c ∧ c ≤ 57
    · rw [if_pos hc, if_neg (by simp)] at h
      obtain ⟨q1, q2, q3, q4⟩ := sc_f l _ r (hb.app (fun d hd => by simp at hd; omega)) h
      simp at q3 q4
      exact ⟨q1, q2, by simp; omega, by simp; omega⟩
    · rw [if_neg hc] at h
      by_cases hp : c = 46
      · rw [if_pos ⟨hp, rfl⟩] at h
        obtain ⟨q1, q2, q3⟩ := sc_t l _ _ r hb (Nat.zero_le _) h
        exact ⟨q1, q2, by simp; omega, by simp; omega⟩
      · rw [if_neg (by simp [hp])] at h
        simp at h
theorem sg_len (l : List Int) : (sgS l).2.length ≤ l.length := by
  cases l with
  | nil => simp [sgS]
  | cons c l =>
    rw [sgS]
    split
    · simp
    · split <;> simp
/-- What is read is canonical. -/
theorem par_ok {l : List Int} {n : Nm} (h : parS l = .ok n) : CN n ∧ n.2.1.length ≤ l.length ∧ n.2.1.length ≤ 4096 ∧ l.length ≤ 4096 := by
  unfold parS at h
  by_cases hl : 4096 < l.length
  · rw [if_pos hl] at h; simp at h
  · rw [if_neg hl] at h
    have hg := sg_len l
    cases hs : scS (sgS l).2 [] 0 false with
    | none => rw [hs] at h; simp at h
    | some r =>
      obtain ⟨b, s⟩ := r
      rw [hs] at h
      dsimp only at h
      by_cases hb : b = []
      · rw [if_pos hb] at h; simp at h
      · rw [if_neg hb] at h
        have hn : canS (sgS l).1 b s = n := by simpa using h
        obtain ⟨q1, q2, q3, q4⟩ := sc_f _ [] (b, s) (fun d hd => by simp at hd) hs
        obtain ⟨c1, c2, c3, c4, c5⟩ := canS_ok (sgS l).1 b s q1 q2
        rw [hn] at c1 c2 c3 c4 c5
        have hbl : 0 < b.length := List.length_pos_iff.2 hb
        dsimp only at q2 q3 q4
        simp at q3 q4
        exact ⟨c1, by omega, by omega, by omega⟩
/-- Text. -/
def txS (n : Nm) : List Int := (if n.1 = true then [45] else []) ++ ((n.2.1.take (n.2.1.length - n.2.2)).map (· + 48) ++ (if n.2.2 = 0 then [] else 46 :: (n.2.1.drop (n.2.1.length - n.2.2)).map (· + 48)))
/-- Right, of whatever digits. -/
def rgS (neg : Bool) (l : List Int) (sc : Int) : Bool :=
  decide (1 ≤ l.length ∧ l.length ≤ 4096 ∧ 0 ≤ sc ∧ sc ≤ l.length - 1) && l.all (fun d => decide (d ≤ 9)) && (decide ((l.length : Int) - sc = 1) || !(l.head? == some 0)) && (decide (sc = 0) || !(l.getLast? == some 0)) && !(l.all (· == 0) && neg)
theorem rg_ok {n : Nm} (h : CN n) (hl : n.2.1.length ≤ 4096) : rgS n.1 n.2.1 n.2.2 = true := by
  have h1 := h.1.len
  have h2 := h.1.hd
  have h3 := h.1.lt
  unfold rgS
  simp only [Bool.and_eq_true, decide_eq_true_eq, Bool.or_eq_true, Bool.not_eq_true', List.all_eq_true]
  refine ⟨⟨⟨⟨by omega, fun d hd => (h.1.dg d hd).2⟩, ?_⟩, ?_⟩, ?_⟩
  · rcases h2 with q | q
    · exact .inl (by omega)
    · exact .inr (by simpa using q)
  · rcases h3 with q | q
    · exact .inl (by omega)
    · exact .inr (by simpa using q)
  · rw [Bool.and_eq_false_iff]
    cases hn : n.1 with
    | false => exact .inr rfl
    | true =>
      left
      rw [← Bool.not_eq_true, all_zero h.1.dg]
      exact h.2 hn
end Go.Proofs.YtgaegajcejpmdaaGreatDoor.Dc
namespace Go.Proofs.YtgaegajcejpmdaaGreatDoor.Dc
set_option linter.unusedVariables false
set_option linter.unusedSimpArgs false

/-- Digits laid out from the place x - 1 down to the place -s. -/
def ext (l : List Int) (sc x s : Nat) : List Int := List.replicate (x - (l.length - sc)) 0 ++ (l ++ List.replicate (s - sc) 0)
theorem ext_len {l : List Int} {sc x s : Nat} (h1 : sc ≤ l.length) (h2 : l.length - sc ≤ x) (h3 : sc ≤ s) : (ext l sc x s).length = x + s := by
  unfold ext
  simp
  omega
theorem ext_dg {l : List Int} {sc x s : Nat} (h : Dg l) : Dg (ext l sc x s) := (Dg.rep _).app (h.app (Dg.rep _))
theorem ext_val (l : List Int) (sc x s : Nat) : dval (ext l sc x s) = dval l * p10 (s - sc) := by
  unfold ext
  rw [dval_append, dval_rep, dval_append, dval_rep]
  simp
/-- A sum from the right: what is carried, and the digits. -/
def addL : List Int → List Int → Int × List Int
  | a :: aas, b :: bs => ((a + b + (addL aas bs).1) / 10, (a + b + (addL aas bs).1) % 10 :: (addL aas bs).2)
  | _, _ => (0, [])
/-- The greater number of places ahead of the point, behind it. -/
def hiX (a b : Nm) : Nat := max (a.2.1.length - a.2.2) (b.2.1.length - b.2.2)
def hiS (a b : Nm) : Nat := max a.2.2 b.2.2
/-- Both laid out alike, with one place more ahead. -/
def exA (a b : Nm) : List Int := ext a.2.1 a.2.2 (hiX a b + 1) (hiS a b)
def exB (a b : Nm) : List Int := ext b.2.1 b.2.2 (hiX a b + 1) (hiS a b)
def szS (a b : Nm) : Int := lexS (exA a b) (exB a b)
def cmpS (a b : Nm) : Int := if a.1 ≠ b.1 then (if a.1 = true then -1 else 1) else if a.1 = true then -(szS a b) else szS a b
theorem ex_ok {a b : Nm} (ha : CN a) (hb : CN b) : (exA a b).length = hiX a b + 1 + hiS a b ∧ (exB a b).length = hiX a b + 1 + hiS a b ∧ Dg (exA a b) ∧ Dg (exB a b) ∧ dval (exA a b) = dval a.2.1 * p10 (hiS a b - a.2.2) ∧ dval (exB a b) = dval b.2.1 * p10 (hiS a b - b.2.2) := by
  have h1 := ha.1.len
  have h2 := hb.1.len
  refine ⟨ext_len (by omega) (by unfold hiX; omega) (by unfold hiS; omega), ext_len (by omega) (by unfold hiX; omega) (by unfold hiS; omega), ext_dg ha.1.dg, ext_dg hb.1.dg, ext_val _ _ _ _, ext_val _ _ _ _⟩
theorem dval_lt {l : List Int} {s S : Nat} (h : Dg l) (hs : s ≤ S) {x : Nat} (hx : l.length - s ≤ x) (hl : s ≤ l.length) : dval l * p10 (S - s) < p10 (x + S) := by
  have hv := (dval_bd h).2
  have hp := p10_pos (S - s)
  have h1 : dval l * p10 (S - s) < p10 l.length * p10 (S - s) := Int.mul_lt_mul_of_pos_right hv hp
  rw [← p10_add] at h1
  have h2 := p10_mono (a := l.length + (S - s)) (b := x + S) (by omega)
  omega
/-- Each is worth what it is worth, at the common scale. -/
theorem nv_ex {a b : Nm} (ha : CN a) (hb : CN b) : nv a (hiS a b) = (if a.1 = true then -(dval (exA a b)) else dval (exA a b)) ∧ nv b (hiS a b) = (if b.1 = true then -(dval (exB a b)) else dval (exB a b)) := by
  obtain ⟨_, _, _, _, h5, h6⟩ := ex_ok ha hb
  rw [h5, h6]
  exact ⟨rfl, rfl⟩
/-- Orders by worth. -/
theorem cmp_ok {a b : Nm} (ha : CN a) (hb : CN b) : (cmpS a b = -1 ∧ nv a (hiS a b) < nv b (hiS a b)) ∨ (cmpS a b = 0 ∧ nv a (hiS a b) = nv b (hiS a b)) ∨ (cmpS a b = 1 ∧ nv b (hiS a b) < nv a (hiS a b)) := by
  obtain ⟨e1, e2, e3, e4, e5, e6⟩ := ex_ok ha hb
  obtain ⟨n1, n2⟩ := nv_ex ha hb
  have hl := lex_val (e1.trans e2.symm) e3 e4
  have v1 := (dval_bd e3).1
  have v2 := (dval_bd e4).1
  have z1 : a.1 = true → dval (exA a b) ≠ 0 := fun q e => by
    rw [e5] at e
    have hp := p10_pos (hiS a b - a.2.2)
    rcases Int.mul_eq_zero.1 e with r | r
    · exact ha.2 q r
    · omega
  have z2 : b.1 = true → dval (exB a b) ≠ 0 := fun q e => by
    rw [e6] at e
    have hp := p10_pos (hiS a b - b.2.2)
    rcases Int.mul_eq_zero.1 e with r | r
    · exact hb.2 q r
    · omega
  rw [n1, n2]
  unfold cmpS szS
  cases h1 : a.1 <;> cases h2 : b.1
  · simp only [ne_eq, not_true_eq_false, if_false, Bool.false_eq_true]
    rcases hl with ⟨q1, q2⟩ | ⟨q1, q2⟩ | ⟨q1, q2⟩
    · exact .inl ⟨q1, q2⟩
    · exact .inr (.inl ⟨q1, by rw [q2]⟩)
    · exact .inr (.inr ⟨q1, q2⟩)
  · have := z2 h2
    simp
    omega
  · have := z1 h1
    simp
    omega
  · simp only [ne_eq, not_true_eq_false, if_false, if_true]
    rcases hl with ⟨q1, q2⟩ | ⟨q1, q2⟩ | ⟨q1, q2⟩
    · exact .inr (.inr ⟨by omega, by omega⟩)
    · exact .inr (.inl ⟨by omega, by rw [q2]⟩)
    · exact .inl ⟨by omega, by omega⟩
end Go.Proofs.YtgaegajcejpmdaaGreatDoor.Dc
namespace Go.Proofs.YtgaegajcejpmdaaGreatDoor.Dc
set_option linter.unusedVariables false
set_option linter.unusedSimpArgs false

/-- Orders by worth, at whatever scale. -/
theorem cmp_at {a b : Nm} (ha : CN a) (hb : CN b) {S : Nat} (h1 : a.2.2 ≤ S) (h2 : b.2.2 ≤ S) : (cmpS a b = -1 ∧ nv a S < nv b S) ∨ (cmpS a b = 0 ∧ nv a S = nv b S) ∨ (cmpS a b = 1 ∧ nv b S < nv a S) := by
  have hS : hiS a b ≤ S := by unfold hiS; omega
  have e1 := nv_up a (S := hiS a b) (T := S) (by unfold hiS; omega) hS
  have e2 := nv_up b (S := hiS a b) (T := S) (by unfold hiS; omega) hS
  have hp := p10_pos (S - hiS a b)
  rw [e1, e2]
  rcases cmp_ok ha hb with ⟨q1, q2⟩ | ⟨q1, q2⟩ | ⟨q1, q2⟩
  · exact .inl ⟨q1, Int.mul_lt_mul_of_pos_right q2 hp⟩
  · exact .inr (.inl ⟨q1, by rw [q2]⟩)
  · exact .inr (.inr ⟨q1, Int.mul_lt_mul_of_pos_right q2 hp⟩)
theorem cmp_zero {a b : Nm} (ha : CN a) (hb : CN b) : cmpS a b = 0 ↔ a = b := by
  have h1 := cmp_at ha hb (S := hiS a b) (by unfold hiS; omega) (by unfold hiS; omega)
  constructor
  · intro h
    exact nm_uniq (S := hiS a b) ha hb (by unfold hiS; omega) (by unfold hiS; omega) (by omega)
  · rintro rfl
    omega
def zN : Nm := (false, [0], 0)
theorem z_cn : CN zN := ⟨⟨fun d hd => by simp [zN] at hd; omega, by simp [zN], .inl rfl, .inl rfl⟩, fun q => by simp [zN] at q⟩
theorem z_nv (S : Nat) : nv zN S = 0 := by
  unfold nv zN
  simp [dval]
/-- A whole number's digits, by rounds. -/
def itS : Nat → Nat → List Int → List Int
  | 0, _, b => b
  | f + 1, u, b => if u > 0 ∨ b = [] then itS f (u / 10) ((u % 10 : Nat) :: b) else b
theorem it_ok : ∀ (f u : Nat) (b : List Int), u < 10 ^ f → Dg b → Dg (itS f u b) ∧ dval (itS f u b) = (u : Int) * p10 b.length + dval b ∧ b.length ≤ (itS f u b).length
  | 0, u, b, hu, hb => by
    have : u = 0 := by simpa using hu
    subst this
    simp [itS, hb]
  | f + 1, u, b, hu, hb => by
    rw [itS]
    by_cases h : u > 0 ∨ b = []
    · rw [if_pos h]
      have hd : Dg ((u % 10 : Nat) :: b : List Int) := by
        intro d hd
        rcases List.mem_cons.1 hd with e | e
        · omega
        · exact hb d e
      obtain ⟨q1, q2, q3⟩ := it_ok f (u / 10) _ (by rw [Nat.pow_succ] at hu; omega) hd
      refine ⟨q1, ?_, by rw [List.length_cons] at q3; omega⟩
      rw [q2, dval_cons, List.length_cons, p10_succ]
      have e : (u : Int) = ((u / 10 : Nat) : Int) * 10 + ((u % 10 : Nat) : Int) := by omega
      rw [Int.mul_comm (p10 b.length) 10, ← Int.mul_assoc, ← Int.add_assoc, ← Int.add_mul, ← e]
    · rw [if_neg h]
      have : u = 0 := by omega
      subst this
      simp [hb]
/-- Int. -/
def inS (n : Int) : Nm := canS (decide (n < 0)) (itS 20 n.natAbs []) 0
theorem in_ok (n : Int) (h : n.natAbs < 10 ^ 20) : CN (inS n) ∧ (inS n).2.2 = 0 ∧ nv (inS n) 0 = n := by
  obtain ⟨q1, q2, q3⟩ := it_ok 20 n.natAbs [] h (fun d hd => by simp at hd)
  obtain ⟨c1, c2, c3, c4, c5⟩ := canS_ok (decide (n < 0)) (itS 20 n.natAbs []) 0 q1 (Nat.zero_le _)
  have hv := canS_nv (decide (n < 0)) (itS 20 n.natAbs []) 0 q1 (Nat.zero_le _)
  have hq : dval (itS 20 n.natAbs []) = (n.natAbs : Int) := by
    rw [q2]
    simp [p10, dval]
  refine ⟨c1, by unfold inS; omega, ?_⟩
  unfold inS
  rw [hv, hq]
  by_cases hn : n < 0
  · rw [if_pos (by simp [hn])]; omega
  · rw [if_neg (by simp [hn])]; omega
end Go.Proofs.YtgaegajcejpmdaaGreatDoor.Dc
namespace Go.Proofs.YtgaegajcejpmdaaGreatDoor.Dc
set_option linter.unusedVariables false
set_option linter.unusedSimpArgs false

/-- Cut at the first point. -/
def ctS : List Int → List Int × List Int
  | [] => ([], [])
  | c :: l => if c = 46 then ([], l) else (c :: (ctS l).1, (ctS l).2)
def dgs (l : List Int) : Bool := l.all fun c => decide (48 ≤ c ∧ c ≤ 57)
theorem dgs_app (a b : List Int) : dgs (a ++ b) = (dgs a && dgs b) := by unfold dgs; exact List.all_append
theorem dgs_dg {l : List Int} (h : dgs l = true) : Dg (l.map (· - 48)) := fun d hd => by
  obtain ⟨c, hc, rfl⟩ := List.mem_map.1 hd
  have := List.all_eq_true.1 h c hc
  simp at this
  omega
theorem sc_true : ∀ (l b : List Int) (s : Nat), scS l b s true = if dgs l = true then some (b ++ l.map (· - 48), s + l.length) else none
  | [], b, s => by simp [scS, dgs]
  | c :: l, b, s => by
    rw [scS]
    by_cases h : 48 ≤ c ∧ c ≤ 57
    · rw [if_pos h, sc_true l]
      have e : dgs (c :: l) = dgs l := by simp [dgs, h]
      rw [e]
      split
      · simp; omega
      · rfl
    · rw [if_neg h, if_neg (by simp)]
      have e : dgs (c :: l) = false := by simp [dgs]; intro q1 q2; omega
      rw [e]; rfl
theorem sc_false : ∀ (l b : List Int), scS l b 0 false = if dgs ((ctS l).1 ++ (ctS l).2) = true then some (b ++ ((ctS l).1 ++ (ctS l).2).map (· - 48), (ctS l).2.length) else none
  | [], b => by simp [scS, dgs, ctS]
  | c :: l, b => by
    rw [scS, ctS]
    by_cases h : 48 ≤ c ∧ c ≤ 57
    · rw [if_pos h, if_neg (show ¬ ((false : Bool) = true) by simp), if_neg (show ¬ c = 46 by omega), sc_false l]
      have e : dgs (c :: (ctS l).1 ++ (ctS l).2) = dgs ((ctS l).1 ++ (ctS l).2) := by simp [dgs, h]
      show _ = if dgs (c :: (ctS l).1 ++ (ctS l).2) = true then _ else _
      rw [e]
      split
      · simp
      · rfl
    · rw [if_neg h]
      by_cases h2 : c = 46
      · rw [if_pos ⟨h2, rfl⟩, if_pos h2, sc_true]
        simp
      · rw [if_neg (by simp [h2]), if_neg h2]
        have e : dgs (c :: (ctS l).1 ++ (ctS l).2) = false := by simp [dgs]; intro q1 q2; omega
        show _ = if dgs (c :: (ctS l).1 ++ (ctS l).2) = true then _ else _
        rw [e]; rfl
theorem can_zero {neg : Bool} {l : List Int} {s : Nat} (h : Dg l) (hs : s ≤ l.length) : canS neg (0 :: l) s = canS neg l s := by
  have h0 : Dg (0 :: l) := fun d hd => by
    rcases List.mem_cons.1 hd with q | q
    · omega
    · exact h d q
  have hs0 : s ≤ (0 :: l).length := by simp; omega
  have k1 := canS_ok neg l s h hs
  have k2 := canS_ok neg (0 :: l) s h0 hs0
  refine nm_uniq (S := s) k2.1 k1.1 k2.2.1 k1.2.1 ?_
  rw [canS_nv _ _ _ h hs, canS_nv _ _ _ h0 hs0, dval_cons]
  simp
/-- Parse, by the program's way. -/
theorem par_cut (l : List Int) : parS l = if 4096 < l.length then .error 3 else if (ctS (sgS l).2).1 = [] ∧ (ctS (sgS l).2).2 = [] then .error 2
    else if dgs ((ctS (sgS l).2).1 ++ (ctS (sgS l).2).2) = true then .ok (canS (sgS l).1 (0 :: ((ctS (sgS l).2).1 ++ (ctS (sgS l).2).2).map (· - 48)) (ctS (sgS l).2).2.length) else .error 2 := by
  unfold parS
  by_cases h : 4096 < l.length
  · rw [if_pos h, if_pos h]
  · rw [if_neg h, if_neg h, sc_false]
    generalize ctS (sgS l).2 = r
    by_cases hd : dgs (r.1 ++ r.2) = true
    · rw [if_pos hd, if_pos hd]
      dsimp only
      rw [List.nil_append]
      by_cases he : r.1 = [] ∧ r.2 = []
      · rw [if_pos he, if_pos (by rw [he.1, he.2]; rfl)]
      · rw [if_neg he, if_neg (by simpa using he), can_zero (dgs_dg hd) (by simp)]
    · rw [if_neg hd, if_neg hd]
      dsimp only
      split <;> rfl
/-- Of what is canonical, nought is one digit. -/
theorem all_one {l : List Int} {s : Nat} (h : Cn l s) : l.all (· == 0) = (decide (l.length = 1) && (l.head? == some 0)) := by
  rw [Bool.eq_iff_iff]
  have h1 := h.len
  constructor
  · intro ha
    have hz : ∀ d ∈ l, d = 0 := fun d hd => by simpa using List.all_eq_true.1 ha d hd
    have hne : l ≠ [] := fun e => by rw [e] at h1; simp at h1
    have hh : l.head? = some 0 := by
      cases l with
      | nil => exact absurd rfl hne
      | cons d l => rw [hz d (by simp)]; rfl
    have hl : l.getLast? = some 0 := by
      obtain ⟨m, d, e, _, hg⟩ := last_mod hne
      rw [hg, hz d (by rw [e]; simp)]
    have hs : s = 0 := by
      rcases h.lt with q | q
      · exact q
      · exact absurd hl q
    have : l.length = 1 := by
      rcases h.hd with q | q
      · omega
      · exact absurd hh q
    simp [this, hh]
  · intro hb
    simp only [Bool.and_eq_true, decide_eq_true_eq, beq_iff_eq] at hb
    obtain ⟨q1, q2⟩ := hb
    cases l with
    | nil => simp at q1
    | cons d l =>
      have : l = [] := List.eq_nil_of_length_eq_zero (by simpa using q1)
      subst this
      simp at q2
      simp [q2]
theorem cT_len : ∀ (s : Nat) (l : List Int), s + 1 ≤ l.length → (cT s l).2 + 1 ≤ (cT s l).1.length
  | 0, l, h => by simpa [cT] using h
  | s + 1, l, h => by
    rw [cT]
    split
    · exact cT_len s l.dropLast (by simp; omega)
    · exact h
theorem cH_len (s : Nat) : ∀ (l : List Int), s + 1 ≤ l.length → s + 1 ≤ (cH s l).length
  | [], h => h
  | d :: l, h => by
    rw [cH]
    split
    · rename_i q
      exact cH_len s l q.2
    · exact h
/-- Made canonical, by the program's way: of a row that has more than its scale. -/
theorem can_pr (neg : Bool) {l : List Int} {s : Nat} (h : Dg l) (hs : s + 1 ≤ l.length) : canS neg l s = (neg && !(decide ((cH (cT s l).2 (cT s l).1).length = 1) && ((cH (cT s l).2 (cT s l).1).head? == some 0)), cH (cT s l).2 (cT s l).1, (cT s l).2) := by
  have k := (canS_ok neg l s h (by omega)).1.1
  have hl := cH_len _ _ (cT_len s l hs)
  have e : cP (cT s l).2 (cH (cT s l).2 (cT s l).1) = cH (cT s l).2 (cT s l).1 := by
    unfold cP
    have : (cT s l).2 + 1 - (cH (cT s l).2 (cT s l).1).length = 0 := by omega
    rw [this]; rfl
  have e2 : canS neg l s = (neg && !((cH (cT s l).2 (cT s l).1).all (· == 0)), cH (cT s l).2 (cT s l).1, (cT s l).2) := by
    unfold canS
    rw [e]
  rw [e2] at k
  rw [e2, all_one k]
/-- Rows compared, the shorter one ahead. -/
def lxS : List Int → List Int → Int
  | [], [] => 0
  | [], _ :: _ => -1
  | _ :: _, [] => 1
  | a :: aas, b :: bs => if a = b then lxS aas bs else if a < b then -1 else 1
theorem lex_self : ∀ l : List Int, lexS l l = 0
  | [] => rfl
  | a :: l => by rw [lexS, if_pos rfl]; exact lex_self l
theorem lex_pre (k : Nat) (x y : List Int) : lexS (List.replicate k 0 ++ x) (List.replicate k 0 ++ y) = lexS x y := by
  induction k with
  | zero => rfl
  | succ k ih => rw [List.replicate_succ, List.cons_append, List.cons_append, lexS, if_pos rfl]; exact ih
theorem lex_low : ∀ (y : List Int) (m : Nat), Dg y → m = y.length → (∃ d ∈ y, d ≠ 0) → lexS (List.replicate m 0) y = -1
  | [], m, _, _, h => by obtain ⟨d, hd, _⟩ := h; simp at hd
  | b :: y, m, hg, hm, h => by
    obtain ⟨hb, hy⟩ := hg.cons
    subst hm
    rw [List.length_cons, List.replicate_succ, lexS]
    by_cases e : (0 : Int) = b
    · rw [if_pos e]
      refine lex_low y _ hy rfl ?_
      obtain ⟨d, hd, hn⟩ := h
      rcases List.mem_cons.1 hd with q | q
      · omega
      · exact ⟨d, q, hn⟩
    · rw [if_neg e, if_pos (by omega)]
theorem lex_high : ∀ (y : List Int) (m : Nat), Dg y → m = y.length → (∃ d ∈ y, d ≠ 0) → lexS y (List.replicate m 0) = 1
  | [], m, _, _, h => by obtain ⟨d, hd, _⟩ := h; simp at hd
  | b :: y, m, hg, hm, h => by
    obtain ⟨hb, hy⟩ := hg.cons
    subst hm
    rw [List.length_cons, List.replicate_succ, lexS]
    by_cases e : b = (0 : Int)
    · rw [if_pos e]
      refine lex_high y _ hy rfl ?_
      obtain ⟨d, hd, hn⟩ := h
      rcases List.mem_cons.1 hd with q | q
      · omega
      · exact ⟨d, q, hn⟩
    · rw [if_neg e, if_neg (by omega)]
theorem last_nz {b : Int} {bs : List Int} (h : (b :: bs).getLast? ≠ some 0) : ∃ d ∈ (b :: bs), d ≠ 0 := by
  obtain ⟨m, d, e, _, hg⟩ := last_mod (l := b :: bs) (by simp)
  refine ⟨d, by rw [e]; simp, fun q => h (by rw [hg, q])⟩
theorem lex_lx : ∀ (a b : List Int) (m n : Nat), Dg a → Dg b → a.length + m = b.length + n → (a.length < b.length → b.getLast? ≠ some 0) → (b.length < a.length → a.getLast? ≠ some 0) → lexS (a ++ List.replicate m 0) (b ++ List.replicate n 0) = lxS a b
  | [], [], m, n, _, _, h, _, _ => by
    have : m = n := by simpa using h
    rw [this]
    exact lex_self _
  | [], b :: bs, m, n, _, hb, h, hl, _ => by
    obtain ⟨d, hd, hn⟩ := last_nz (hl (by simp))
    rw [List.nil_append, lxS]
    refine lex_low _ _ (hb.app (Dg.rep n)) (by simp at h; simp; omega) ⟨d, List.mem_append_left _ hd, hn⟩
  | a :: aas, [], m, n, ha, _, h, _, hl => by
    obtain ⟨d, hd, hn⟩ := last_nz (hl (by simp))
    rw [List.nil_append, lxS]
    refine lex_high _ _ (ha.app (Dg.rep m)) (by simp at h; simp; omega) ⟨d, List.mem_append_left _ hd, hn⟩
  | a :: aas, b :: bs, m, n, ha, hb, h, h1, h2 => by
    obtain ⟨_, ha'⟩ := ha.cons
    obtain ⟨_, hb'⟩ := hb.cons
    rw [List.cons_append, List.cons_append, lexS, lxS]
    have key : ∀ (x : Int) (xs ys : List Int), (ys.length + 1 < xs.length + 1 → (x :: xs).getLast? ≠ some 0) → ys.length < xs.length → xs.getLast? ≠ some 0 := by
      intro x xs ys q hlt
      have := q (by omega)
      cases xs with
      | nil => simp at hlt
      | cons z zs => rwa [List.getLast?_cons_cons] at this
    rw [lex_lx aas bs m n ha' hb' (by simp at h; omega) (key b bs aas (by simpa using h1)) (key a aas bs (by simpa using h2))]
/-- How far from nought: places ahead first, then the digits. -/
def fcS (a b : Nm) : Int := if a.2.1.length - a.2.2 < b.2.1.length - b.2.2 then -1 else if b.2.1.length - b.2.2 < a.2.1.length - a.2.2 then 1 else lxS a.2.1 b.2.1
theorem ahead_big {a b : Nm} (ha : CN a) (hb : CN b) (h : a.2.1.length - a.2.2 < b.2.1.length - b.2.2) : dval a.2.1 * p10 (hiS a b - a.2.2) < dval b.2.1 * p10 (hiS a b - b.2.2) := by
  have l1 := ha.1.len
  have l2 := hb.1.len
  have q1 := dval_lt (s := a.2.2) (S := hiS a b) ha.1.dg (by unfold hiS; omega) (x := b.2.1.length - b.2.2 - 1) (by omega) (by omega)
  have hh : b.2.1.head? ≠ some 0 := by
    rcases hb.1.hd with q | q
    · omega
    · exact q
  have q2 := head_big hb.1.dg (fun e => by rw [e] at l2; simp at l2) hh
  have q3 : p10 (b.2.1.length - 1) * p10 (hiS a b - b.2.2) ≤ dval b.2.1 * p10 (hiS a b - b.2.2) := Int.mul_le_mul_of_nonneg_right q2 (by have := p10_pos (hiS a b - b.2.2); omega)
  rw [← p10_add] at q3
  have e : b.2.1.length - 1 + (hiS a b - b.2.2) = b.2.1.length - b.2.2 - 1 + hiS a b := by
    have : b.2.2 ≤ hiS a b := by unfold hiS; omega
    omega
  rw [e] at q3
  omega
theorem hiS_comm (a b : Nm) : hiS a b = hiS b a := by unfold hiS; omega
theorem fc_sz {a b : Nm} (ha : CN a) (hb : CN b) : fcS a b = szS a b := by
  obtain ⟨e1, e2, e3, e4, e5, e6⟩ := ex_ok ha hb
  have l1 := ha.1.len
  have l2 := hb.1.len
  have hv := lex_val (a := exA a b) (b := exB a b) (by rw [e1, e2]) e3 e4
  rw [e5, e6] at hv
  unfold fcS
  split
  · rename_i h
    have := ahead_big ha hb h
    rcases hv with ⟨q, r⟩ | ⟨q, r⟩ | ⟨q, r⟩
    · exact q.symm
    · rw [← e5, ← e6, r] at this; omega
    · omega
  · split
    · rename_i h
      have := ahead_big hb ha h
      rw [hiS_comm b a] at this
      rcases hv with ⟨q, r⟩ | ⟨q, r⟩ | ⟨q, r⟩
      · omega
      · rw [← e5, ← e6, r] at this; omega
      · exact q.symm
    · rename_i h1 h2
      have hk : b.2.1.length - b.2.2 = a.2.1.length - a.2.2 := by omega
      unfold szS exA exB ext
      rw [hk, lex_pre]
      have s1 : a.2.2 ≤ hiS a b := by unfold hiS; omega
      have s2 : b.2.2 ≤ hiS a b := by unfold hiS; omega
      refine (lex_lx _ _ _ _ ha.1.dg hb.1.dg (by omega) (fun q => ?_) (fun q => ?_)).symm
      · rcases hb.1.lt with r | r
        · omega
        · exact r
      · rcases ha.1.lt with r | r
        · omega
        · exact r
end Go.Proofs.YtgaegajcejpmdaaGreatDoor.Dc
namespace Go.Proofs.YtgaegajcejpmdaaGreatDoor.Dc
set_option linter.unusedVariables false
set_option linter.unusedSimpArgs false

theorem ct_np : ∀ {x : List Int}, dgs x = true → ctS x = (x, [])
  | [], _ => rfl
  | c :: x, h => by
    have h1 : (48 ≤ c ∧ c ≤ 57) ∧ dgs x = true := by
      unfold dgs at h ⊢
      simpa using h
    rw [ctS, if_neg (by omega), ct_np h1.2]
theorem sg_sign {g : Int} {l : List Int} (hg : g = 43 ∨ g = 45) : sgS (g :: l) = (decide (g = 45), l) := by
  rw [sgS]
  rcases hg with rfl | rfl
  · simp
  · simp
theorem form2 {g : Int} {A : List Int} (hg : g = 43 ∨ g = 45) (hA : dgs A = true) (hn : A ≠ []) (hl : A.length + 1 ≤ 4096) : parS (g :: A) = .ok (canS (decide (g = 45)) (0 :: A.map (· - 48)) 0) := by
  rw [par_cut, sg_sign hg]
  dsimp only
  rw [ct_np hA, if_neg (by simp; omega)]
  dsimp only
  rw [if_neg (fun q => hn q.1), if_pos (by rw [List.append_nil]; exact hA)]
  simp
theorem Dg.zero {l : List Int} (h : Dg l) : Dg (0 :: l) := fun d hd => by
  rcases List.mem_cons.1 hd with q | q
  · omega
  · exact h d q
theorem dval_zero' (l : List Int) : dval (0 :: l) = dval l := by rw [dval_cons]; simp
end Go.Proofs.YtgaegajcejpmdaaGreatDoor.Dc
namespace Go.Proofs.YtgaegajcejpmdaaGreatDoor.Dt
set_option linter.unusedVariables false

/-- A year as a row's number without a gap, and back. -/
def lnY (y : Int) : Int := if y < 0 then y + 1 else y
def bkY (l : Int) : Int := if l ≤ 0 then l - 1 else l
theorem ln_bk (l : Int) : lnY (bkY l) = l := by unfold lnY bkY; repeat' split <;> omega
theorem bk_ln {y : Int} (h : y ≠ 0) : bkY (lnY y) = y := by unfold lnY bkY; repeat' split <;> omega
theorem bk_ne (l : Int) : bkY l ≠ 0 := by unfold bkY; split <;> omega
/-- Leap years, of a row's number. -/
def lpL (l : Int) : Bool := l % 4 == 0 && (l % 100 != 0 || l % 400 == 0)
theorem lp_true {l : Int} : lpL l = true ↔ l % 4 = 0 ∧ (l % 100 ≠ 0 ∨ l % 400 = 0) := by unfold lpL; simp
theorem lp_false {l : Int} : lpL l = false ↔ ¬ (l % 4 = 0 ∧ (l % 100 ≠ 0 ∨ l % 400 = 0)) := by rw [← lp_true]; simp
def yrL (l : Int) : Int := if lpL l then 366 else 365
theorem yr_two (l : Int) : yrL l = 365 ∨ yrL l = 366 := by unfold yrL; split <;> simp
/-- The days of the years ahead. -/
def ahd (l : Int) : Int := 365 * l + (l + 3) / 4 - (l + 99) / 100 + (l + 399) / 400
theorem ahd_succ (l : Int) : ahd (l + 1) = ahd l + yrL l := by
  unfold ahd yrL
  split
  · rename_i h
    rw [lp_true] at h
    omega
  · rename_i h
    have h : lpL l = false := by simpa using h
    rw [lp_false] at h
    omega
theorem ahd_cycle (l k : Int) : ahd (l + 400 * k) = ahd l + 146097 * k := by unfold ahd; omega
theorem ahd_grow (l : Int) (k : Nat) : ahd l + 365 * k ≤ ahd (l + k) := by
  induction k with
  | zero => simp
  | succ k ih =>
    have := ahd_succ (l + k)
    rw [show l + ((k + 1 : Nat) : Int) = l + k + 1 by omega, this]
    rcases yr_two (l + k) with h | h <;> omega
theorem ahd_lt {l m : Int} (h : l < m) : ahd (l + 1) ≤ ahd m := by
  obtain ⟨k, rfl⟩ : ∃ k : Nat, m = l + 1 + k := ⟨(m - (l + 1)).toNat, by omega⟩
  have := ahd_grow (l + 1) k
  omega

/-- A month's length, of a row's number. -/
def lenL (l m : Int) : Int := if m = 2 then (if lpL l then 29 else 28) else if m = 4 ∨ m = 6 ∨ m = 9 ∨ m = 11 then 30 else if 1 ≤ m ∧ m ≤ 12 then 31 else 0
theorem len_in {l m : Int} (h : 1 ≤ m) (h' : m ≤ 12) : 28 ≤ lenL l m ∧ lenL l m ≤ 31 := by unfold lenL; repeat' split <;> omega
/-- The days of the months ahead. -/
def cum (l : Int) : Nat → Int
  | 0 => 0
  | k + 1 => cum l k + lenL l ((k : Int) + 1)
theorem cum_twelve (l : Int) : cum l 12 = yrL l := by
  simp [cum, lenL, yrL]
  split <;> rfl
theorem len_nonneg (l m : Int) : 0 ≤ lenL l m := by unfold lenL; repeat' split <;> omega
theorem cum_mono (l : Int) {a b : Nat} (h : a ≤ b) : cum l a ≤ cum l b := by
  induction h with
  | refl => exact Int.le_refl _
  | step _ ih => simp only [cum]; exact Int.le_trans ih (by have := len_nonneg l; exact Int.le_add_of_nonneg_right (this _))
theorem cum_nonneg (l : Int) (a : Nat) : 0 ≤ cum l a := cum_mono l (Nat.zero_le a)
theorem cum_le (l : Int) {a : Nat} (h : a ≤ 12) : cum l a ≤ 366 := by
  have := cum_mono l h
  rw [cum_twelve] at this
  rcases yr_two l with e | e <;> omega
/-- The number of a day: l a row's number, m a month from 1 on, d a day from 1 on. -/
def dayN (l : Int) (m : Nat) (d : Int) : Int := ahd l - ahd 2000 + cum l (m - 1) + d - 1
/-- P602's count of any numbers. -/
def daysS (y m d : Int) : Int := dayN (lnY y + (m - 1) / 12) (((m - 1) % 12).toNat + 1) d
/-- The day of this number: it is the one. -/
structure IsDay (n l : Int) (m : Nat) (d : Int) : Prop where
  m0 : 1 ≤ m
  m1 : m ≤ 12
  d0 : 1 ≤ d
  d1 : d ≤ lenL l m
  at_ : dayN l m d = n
theorem IsDay.within {n l : Int} {m : Nat} {d : Int} (h : IsDay n l m d) : ahd l - ahd 2000 ≤ n ∧ n < ahd (l + 1) - ahd 2000 := by
  obtain ⟨m0, m1, d0, d1, rfl⟩ := h
  have a := cum_nonneg l (m - 1)
  have b := cum_mono l (show m ≤ 12 by omega)
  obtain ⟨k, rfl⟩ : ∃ k, m = k + 1 := ⟨m - 1, by omega⟩
  rw [cum_twelve] at b
  have c := ahd_succ l
  simp only [cum] at b
  have d1' : d ≤ lenL l ((k : Int) + 1) := by simpa using d1
  simp only [dayN, Nat.add_sub_cancel] at a ⊢
  omega
theorem IsDay.uniq {n l l' : Int} {m m' : Nat} {d d' : Int} (h : IsDay n l m d) (h' : IsDay n l' m' d') : l = l' ∧ m = m' ∧ d = d' := by
  have e : l = l' := by
    have w := h.within
    have w' := h'.within
    by_cases c : l < l'
    · have := ahd_lt c
      omega
    · by_cases c' : l' < l
      · have := ahd_lt c'
        omega
      · omega
  subst e
  obtain ⟨m0, m1, d0, d1, rfl⟩ := h
  obtain ⟨m0', m1', d0', d1', e⟩ := h'
  obtain ⟨k, rfl⟩ : ∃ k, m = k + 1 := ⟨m - 1, by omega⟩
  obtain ⟨k', rfl⟩ : ∃ k, m' = k + 1 := ⟨m' - 1, by omega⟩
  simp only [dayN, Nat.add_sub_cancel] at e
  have d2 : d ≤ lenL l ((k : Int) + 1) := by simpa using d1
  have d2' : d' ≤ lenL l ((k' : Int) + 1) := by simpa using d1'
  have ek : k = k' := by
    by_cases c : k < k'
    · have := cum_mono l (show k + 1 ≤ k' from c)
      simp only [cum] at this
      omega
    · by_cases c' : k' < k
      · have := cum_mono l (show k' + 1 ≤ k from c')
        simp only [cum] at this
        omega
      · omega
  subst ek
  exact ⟨rfl, rfl, by omega⟩
/-- A day that stands in a month bears its number. -/
theorem days_is {y : Int} {m : Nat} {d : Int} (m0 : 1 ≤ m) (m1 : m ≤ 12) (d0 : 1 ≤ d) (d1 : d ≤ lenL (lnY y) m) : IsDay (daysS y m d) (lnY y) m d := by
  refine ⟨m0, m1, d0, d1, ?_⟩
  unfold daysS
  rw [show ((m : Int) - 1) / 12 = 0 by omega, show (((m : Int) - 1) % 12).toNat + 1 = m by omega, Int.add_zero]
end Go.Proofs.YtgaegajcejpmdaaGreatDoor.Dt
namespace Go.Proofs.YtgaegajcejpmdaaGreatDoor.Dt
set_option linter.unusedVariables false

/-- The last of 0 .. N that is not beyond x. -/
def fnd (f : Nat → Int) (x : Int) : Nat → Nat
  | 0 => 0
  | N + 1 => if f (N + 1) ≤ x then N + 1 else fnd f x N
theorem fnd_ok {f : Nat → Int} {x : Int} : ∀ N : Nat, f 0 ≤ x → x < f (N + 1) → f (fnd f x N) ≤ x ∧ x < f (fnd f x N + 1) ∧ fnd f x N ≤ N
  | 0, h0, h1 => ⟨h0, h1, Nat.le_refl _⟩
  | N + 1, h0, h1 => by
    unfold fnd
    split
    · rename_i h; exact ⟨h, h1, Nat.le_refl _⟩
    · rename_i h
      obtain ⟨a, b, c⟩ := fnd_ok N h0 (by omega)
      exact ⟨a, b, by omega⟩
/-- The day of a number. -/
def civL (n : Int) : Int := 2000 + 400 * (n / 146097) + (fnd (fun k => ahd (2000 + 400 * (n / 146097) + k) - ahd (2000 + 400 * (n / 146097))) (n % 146097) 399 : Nat)
def civR (n : Int) : Int := n - (ahd (civL n) - ahd 2000)
def civJ (n : Int) : Nat := fnd (cum (civL n)) (civR n) 11
def civM (n : Int) : Nat := civJ n + 1
def civD (n : Int) : Int := civR n - cum (civL n) (civJ n) + 1
theorem civ_is (n : Int) : IsDay n (civL n) (civM n) (civD n) := by
  have hr : 0 ≤ civR n ∧ civR n < yrL (civL n) := by
    have h := fnd_ok (f := fun k => ahd (2000 + 400 * (n / 146097) + k) - ahd (2000 + 400 * (n / 146097))) (x := n % 146097) 399 (by simp; omega) (by
      have h1 := ahd_cycle (2000 + 400 * (n / 146097)) 1
      have h2 : (2000 + 400 * (n / 146097) + ((399 + 1 : Nat) : Int)) = 2000 + 400 * (n / 146097) + 400 * 1 := by omega
      show n % 146097 < ahd (2000 + 400 * (n / 146097) + ((399 + 1 : Nat) : Int)) - _
      rw [h2]
      omega)
    have hc : ahd (2000 + 400 * (n / 146097)) = ahd 2000 + 146097 * (n / 146097) := ahd_cycle _ _
    have hs := ahd_succ (civL n)
    unfold civR
    unfold civL at hs ⊢
    generalize fnd (fun k => ahd (2000 + 400 * (n / 146097) + k) - ahd (2000 + 400 * (n / 146097))) (n % 146097) 399 = q at h hs ⊢
    obtain ⟨a, b, _⟩ := h
    have b' : n % 146097 < ahd (2000 + 400 * (n / 146097) + q + 1) - ahd (2000 + 400 * (n / 146097)) := by
      have e : (2000 + 400 * (n / 146097) + ((q + 1 : Nat) : Int)) = 2000 + 400 * (n / 146097) + q + 1 := by omega
      rw [← e]; exact b
    have a' : ahd (2000 + 400 * (n / 146097) + q) - ahd (2000 + 400 * (n / 146097)) ≤ n % 146097 := a
    have := Int.emod_add_mul_ediv n 146097
    omega
  obtain ⟨a, b, c⟩ := fnd_ok (f := cum (civL n)) (x := civR n) 11 (by simpa [cum] using hr.1) (by
    have := cum_twelve (civL n)
    have e : cum (civL n) (11 + 1) = yrL (civL n) := this
    rw [e]; exact hr.2)
  change cum (civL n) (civJ n) ≤ civR n at a
  change civR n < cum (civL n) (civJ n + 1) at b
  change civJ n ≤ 11 at c
  simp only [cum] at b
  refine ⟨by unfold civM; omega, by unfold civM; omega, by unfold civD; omega, ?_, ?_⟩
  · have e : ((civM n : Nat) : Int) = (civJ n : Int) + 1 := by unfold civM; omega
    rw [e]
    unfold civD
    omega
  · simp only [dayN, civM, Nat.add_sub_cancel]
    unfold civD civR
    omega
theorem civ_of {n l : Int} {m : Nat} {d : Int} (h : IsDay n l m d) : civL n = l ∧ civM n = m ∧ civD n = d := (civ_is n).uniq h

/-- A moment, a span. -/
structure Mo where
  (k y m d s n : Int)
  hz : Bool
  z : Int
deriving DecidableEq
structure Sp where
  (o s n : Int)
deriving DecidableEq
def linS (a : Mo) (z : Int) : Int := 86400 * daysS a.y a.m a.d + a.s - 60 * z
def ordS (a x b y : Int) : Int := if a < b ∨ a = b ∧ x < y then -1 else if a = b ∧ x = y then 0 else 1
theorem ord_swap (a x b y : Int) : ordS b y a x = - ordS a x b y := by unfold ordS; repeat' split <;> omega
theorem ord_in (a x b y : Int) : ordS a x b y = -1 ∨ ordS a x b y = 0 ∨ ordS a x b y = 1 := by unfold ordS; repeat' split <;> omega
theorem ord_refl (a x : Int) : ordS a x a x = 0 := by unfold ordS; simp
/-- One with a zone, one without. -/
def mixS (a b : Mo) : Int := if ordS (linS a a.z) a.n (linS b 840) b.n = ordS (linS a a.z) a.n (linS b (-840)) b.n ∧ ordS (linS a a.z) a.n (linS b 840) b.n ≠ 0 then ordS (linS a a.z) a.n (linS b 840) b.n else 2
def cmpM (a b : Mo) : Int :=
  if a.k ≠ b.k then 2
  else if a.hz = b.hz then ordS (linS a a.z) a.n (linS b b.z) b.n
  else if a.hz then mixS a b
  else if mixS b a = 2 then 2 else - mixS b a
theorem mix_in (a b : Mo) : mixS a b = -1 ∨ mixS a b = 1 ∨ mixS a b = 2 := by
  unfold mixS
  rcases ord_in (linS a a.z) a.n (linS b 840) b.n with h | h | h <;> rw [h] <;> split <;> omega
theorem cmp_in (a b : Mo) : cmpM a b = -1 ∨ cmpM a b = 0 ∨ cmpM a b = 1 ∨ cmpM a b = 2 := by
  unfold cmpM
  have h1 := ord_in (linS a a.z) a.n (linS b b.z) b.n
  have h2 := mix_in a b
  have h3 := mix_in b a
  repeat' split <;> omega
theorem cmp_turn (a b : Mo) : cmpM b a = if cmpM a b = 2 then 2 else - cmpM a b := by
  unfold cmpM
  by_cases hk : a.k = b.k
  · rw [if_neg (show ¬ b.k ≠ a.k by rw [hk]; simp), if_neg (show ¬ a.k ≠ b.k by rw [hk]; simp)]
    have h1 := ord_in (linS a a.z) a.n (linS b b.z) b.n
    have h4 := ord_swap (linS a a.z) a.n (linS b b.z) b.n
    have h2 := mix_in a b
    have h3 := mix_in b a
    cases ha : a.hz <;> cases hb : b.hz <;> simp [h4]
    all_goals first | omega | (split <;> omega)
  · rw [if_pos (show b.k ≠ a.k from fun h => hk h.symm), if_pos (show a.k ≠ b.k from hk)]
    simp
theorem cmp_self (a : Mo) : cmpM a a = 0 := by unfold cmpM; simp [ord_refl]
/-- P604: a span on a moment. -/
def addL (a : Mo) (p : Sp) : Int := lnY a.y + (a.m - 1 + p.o) / 12
def addO (a : Mo) (p : Sp) : Int := (a.m - 1 + p.o) % 12 + 1
def addC (a : Mo) (p : Sp) : Int := if a.d > lenL (addL a p) (addO a p) then lenL (addL a p) (addO a p) else a.d
def addT (a : Mo) (p : Sp) : Int := a.s + p.s + (a.n + p.n) / 1000000000
def addN (a : Mo) (p : Sp) : Int := daysS (bkY (addL a p)) (addO a p) (addC a p) + addT a p / 86400
def addM (a : Mo) (p : Sp) : Mo := ⟨a.k, bkY (civL (addN a p)), (civM (addN a p) : Nat), civD (addN a p), addT a p % 86400, (a.n + p.n) % 1000000000, a.hz, a.z⟩
theorem days_civ (n : Int) : daysS (bkY (civL n)) (civM n : Nat) (civD n) = n := by
  have h := civ_is n
  have := days_is (y := bkY (civL n)) h.m0 h.m1 h.d0 (by rw [ln_bk]; exact h.d1)
  have e := this.at_
  rw [ln_bk] at e
  rw [← e]
  exact h.at_
/-- A day within its month is itself again. -/
theorem add_same {a : Mo} {s n : Int} (hy : a.y ≠ 0) (hm : 1 ≤ a.m) (hm' : a.m ≤ 12) (hd' : a.d ≤ lenL (lnY a.y) a.m) : addL a ⟨0, s, n⟩ = lnY a.y ∧ addO a ⟨0, s, n⟩ = a.m ∧ addC a ⟨0, s, n⟩ = a.d ∧ bkY (addL a ⟨0, s, n⟩) = a.y := by
  have h1 : addL a ⟨0, s, n⟩ = lnY a.y := by unfold addL; simp only []; omega
  have h2 : addO a ⟨0, s, n⟩ = a.m := by unfold addO; simp only []; omega
  refine ⟨h1, h2, ?_, by rw [h1, bk_ln hy]⟩
  unfold addC
  rw [h1, h2, if_neg (by omega)]
/-- The four moments of a span's order. -/
def refM (y m : Int) : Mo := ⟨1, y, m, 1, 0, 0, false, 0⟩
def cmp4 (y m : Int) (a b : Sp) : Int := cmpM (addM (refM y m) a) (addM (refM y m) b)
def cmpP (a b : Sp) : Int :=
  let c := cmp4 1903 7 a b
  if cmp4 1696 9 a b = c ∧ cmp4 1697 2 a b = c ∧ cmp4 1903 3 a b = c then c else 2
theorem cmpP_self (a : Sp) : cmpP a a = 0 := by unfold cmpP cmp4; simp [cmp_self]
end Go.Proofs.YtgaegajcejpmdaaGreatDoor.Dt
namespace Go.Proofs.YtgaegajcejpmdaaGreatDoor.Ch

def ann (c : Int) : Int := if c < 128 then 1 else if c < 192 then 0 else if c < 224 then 2 else if c < 240 then 3 else if c < 248 then 4 else 0
def wid (r : Int) : Int := if r < 0 then 0 else if r < 128 then 1 else if r < 2048 then 2 else if 55296 ≤ r ∧ r ≤ 57343 then 0 else if r < 65536 then 3 else if r ≤ 1114111 then 4 else 0
def isTl (c : Int) : Bool := decide (128 ≤ c ∧ c < 192)
def fin (r n : Int) : Int × Int := if wid r = n then (r, n) else (-1, 0)
def dec2 (c c1 : Int) : Int × Int := if isTl c1 = true then fin (c % 32 * 64 + c1 % 64) 2 else (-1, 0)
def dec3 (c c1 c2 : Int) : Int × Int := if isTl c1 = true ∧ isTl c2 = true then fin ((c % 16 * 64 + c1 % 64) * 64 + c2 % 64) 3 else (-1, 0)
def dec4 (c c1 c2 c3 : Int) : Int × Int := if isTl c1 = true ∧ isTl c2 = true ∧ isTl c3 = true then fin (((c % 8 * 64 + c1 % 64) * 64 + c2 % 64) * 64 + c3 % 64) 4 else (-1, 0)
def dec (l : List Int) : Int × Int :=
  if l.length = 0 then (-1, 0)
  else if l.getD 0 0 < 128 then (l.getD 0 0, 1)
  else if l.getD 0 0 < 192 then (-1, 0)
  else if l.getD 0 0 < 224 then if 2 ≤ l.length then dec2 (l.getD 0 0) (l.getD 1 0) else (-1, 0)
  else if l.getD 0 0 < 240 then if 3 ≤ l.length then dec3 (l.getD 0 0) (l.getD 1 0) (l.getD 2 0) else (-1, 0)
  else if l.getD 0 0 < 248 then if 4 ≤ l.length then dec4 (l.getD 0 0) (l.getD 1 0) (l.getD 2 0) (l.getD 3 0) else (-1, 0)
  else (-1, 0)

def isChar (r : Int) : Bool := decide (r = 9 ∨ r = 10 ∨ r = 13 ∨ (32 ≤ r ∧ r ≤ 55295) ∨ (57344 ≤ r ∧ r ≤ 65533) ∨ (65536 ≤ r ∧ r ≤ 1114111))
def isStart (r : Int) : Bool := decide ((65 ≤ r ∧ r ≤ 90) ∨ (97 ≤ r ∧ r ≤ 122) ∨ r = 95 ∨ r = 58 ∨ (192 ≤ r ∧ r ≠ 215 ∧ r ≠ 247 ∧ isChar r = true))
def isPart (r : Int) : Bool := decide (isStart r = true ∨ (48 ≤ r ∧ r ≤ 57) ∨ r = 45 ∨ r = 46 ∨ r = 183)
def isWhite (r : Int) : Bool := decide (r = 9 ∨ r = 10 ∨ r = 13 ∨ r = 32)

def enc (r : Int) : List Int :=
  if wid r = 1 then [r]
  else if wid r = 2 then [192 + r / 64, 128 + r % 64]
  else if wid r = 3 then [224 + r / 4096, 128 + r / 64 % 64, 128 + r % 64]
  else if wid r = 4 then [240 + r / 262144, 128 + r / 4096 % 64, 128 + r / 64 % 64, 128 + r % 64]
  else []

theorem dec_bd (l : List Int) : (dec l).2 = 0 ∨ (1 ≤ (dec l).2 ∧ (dec l).2 ≤ 4 ∧ (dec l).2 ≤ l.length) := by
  unfold dec dec2 dec3 dec4 fin
  repeat' split
  all_goals simp
  all_goals omega
end Go.Proofs.YtgaegajcejpmdaaGreatDoor.Ch
namespace Go.Proofs.YtgaegajcejpmdaaGreatDoor.Ch

def tok : Nat → List Int → Bool
  | 0, _ => true
  | n + 1, l => if l.length = 0 then true else if (dec l).2 = 0 ∨ isPart (dec l).1 = false then false else tok n (l.drop (dec l).2.toNat)

theorem tok_end (n : Nat) (l : List Int) (h : l.length = 0) : tok n l = true := by
  cases n <;> simp [tok, h]
theorem tok_bad (n : Nat) (l : List Int) (h0 : ¬ l.length = 0) (h : (dec l).2 = 0 ∨ isPart (dec l).1 = false) : tok (n + 1) l = false := by
  simp only [tok]; rw [if_neg h0, if_pos h]
theorem tok_step (n : Nat) (l : List Int) (h0 : ¬ l.length = 0) (h : ¬ ((dec l).2 = 0 ∨ isPart (dec l).1 = false)) : tok (n + 1) l = tok n (l.drop (dec l).2.toNat) := by
  simp only [tok]; rw [if_neg h0, if_neg h]
end Go.Proofs.YtgaegajcejpmdaaGreatDoor.Ch
namespace Go.Proofs.YtgaegajcejpmdaaGreatDoor.Dt
set_option linter.unusedVariables false

theorem tmod_neg {a b : Int} (hb : 0 < b) (h : a.tmod b < 0) : a.tmod b + b = a % b := by
  rw [Int.tmod_eq_emod] at h ⊢
  have := Int.emod_nonneg a (show b ≠ 0 by omega)
  split at h <;> rename_i c
  · omega
  · rw [if_neg c]; omega
theorem tmod_pos {a b : Int} (hb : 0 < b) (h : ¬ a.tmod b < 0) : a.tmod b = a % b := by
  rw [Int.tmod_eq_emod] at h ⊢
  have := Int.emod_lt_of_pos a hb
  split at h <;> rename_i c
  · rw [if_pos c]; omega
  · omega
theorem tdiv_fix {a b : Int} (hb : 0 < b) : (a - a % b).tdiv b = a / b := by
  have : a - a % b = b * (a / b) := by have := Int.emod_add_mul_ediv a b; omega
  rw [this, Int.mul_tdiv_cancel_left _ (by omega)]
theorem emod_in (a : Int) {b : Int} (hb : 0 < b) : 0 ≤ a % b ∧ a % b < b := ⟨Int.emod_nonneg _ (by omega), Int.emod_lt_of_pos _ hb⟩
end Go.Proofs.YtgaegajcejpmdaaGreatDoor.Dt
namespace Go.Proofs.YtgaegajcejpmdaaGreatDoor.Dt
set_option linter.unusedVariables false

def isD (c : Int) : Bool := decide (48 ≤ c) && decide (c ≤ 57)
/-- How many digits stand ahead. -/
def dgs (l : List Int) : Nat := (l.takeWhile isD).length
/-- A row of digits as a number. -/
def dvl (l : List Int) : Int := l.foldl (fun v c => 10 * v + (c - 48)) 0
def tkB (c : Int) (l : List Int) : Option (List Int) := if l.head? = some c then some l.tail else none
def nmB (n : Nat) (l : List Int) : Option (Int × List Int) := if dgs l < n then none else some (dvl (l.take n), l.drop n)
def inB (lo hi : Int) (l : List Int) : Option (Int × List Int) := (nmB 2 l).bind fun x => if x.1 < lo ∨ hi < x.1 then none else some x
def yrB (l : List Int) : Option (Int × List Int) :=
  let neg := l.head? = some 45
  let t := if neg then l.tail else l
  if dgs t < 4 ∨ 9 < dgs t ∨ (4 < dgs t ∧ t.head? = some 48) then none
  else (nmB (dgs t) t).bind fun x => if x.1 = 0 then none else some (if neg then - x.1 else x.1, x.2)
def frB (l : List Int) : Option (Int × List Int) :=
  if l.head? = some 46 then
    if dgs l.tail < 1 ∨ 9 < dgs l.tail then none
    else (nmB (dgs l.tail) l.tail).map fun x => (x.1 * 10 ^ (9 - dgs l.tail), x.2)
  else some (0, l)
def clB (l : List Int) : Option ((Int × Int) × List Int) :=
  (inB 0 24 l).bind fun h => (tkB 58 h.2).bind fun l1 => (inB 0 59 l1).bind fun m => (tkB 58 m.2).bind fun l2 => (inB 0 59 l2).bind fun s => (frB s.2).bind fun f =>
    if h.1 = 24 ∧ (0 < m.1 ∨ 0 < s.1 ∨ 0 < f.1) then none else some ((3600 * h.1 + 60 * m.1 + s.1, f.1), f.2)
/-- The zone, or none; then the end. -/
def znB (l : List Int) : Option (Bool × Int) :=
  if l = [] then some (false, 0)
  else if l.head? = some 90 then (if l.tail = [] then some (true, 0) else none)
  else if l.head? = some 45 ∨ l.head? = some 43 then
    (inB 0 14 l.tail).bind fun h => (tkB 58 h.2).bind fun l1 => (inB 0 59 l1).bind fun n =>
      if (h.1 = 14 ∧ 0 < n.1) ∨ n.2 ≠ [] then none else some (true, if l.head? = some 45 then -(60 * h.1 + n.1) else 60 * h.1 + n.1)
  else none
/-- The front: a year, or dashes, or nothing. -/
def ftB (k : Int) (l : List Int) : Option (Int × List Int) :=
  if k = 1 ∨ k = 2 ∨ k = 4 ∨ k = 5 then yrB l
  else if k = 6 ∨ k = 8 then (tkB 45 l).map fun t => (2000, t)
  else if k = 7 then ((tkB 45 l).bind (tkB 45)).map fun t => (2000, t)
  else some (2000, l)
def mnB (k : Int) (l : List Int) : Option (Int × List Int) :=
  if k = 1 ∨ k = 2 ∨ k = 4 ∨ k = 6 ∨ k = 8 then (tkB 45 l).bind (inB 1 12) else some (1, l)
def dyB (k y m : Int) (l : List Int) : Option (Int × List Int) :=
  if k = 1 ∨ k = 2 ∨ k = 6 ∨ k = 7 then (tkB 45 l).bind (inB 1 (if k = 7 then 31 else lenL (lnY y) m)) else some (1, l)
def ckB (k : Int) (l : List Int) : Option ((Int × Int) × List Int) :=
  if k = 1 then (tkB 84 l).bind clB else if k = 3 then clB l else some ((0, 0), l)
/-- 24:00:00 is the next day's begin. -/
def nxM (a : Mo) : Mo :=
  if a.s = 86400 then
    (if a.k = 1 then ⟨a.k, bkY (civL (daysS a.y a.m a.d + 1)), (civM (daysS a.y a.m a.d + 1) : Nat), civD (daysS a.y a.m a.d + 1), 0, a.n, a.hz, a.z⟩ else { a with s := 0 })
  else a
/-- P602 of a kind from 1 to 8. -/
def prM (k : Int) (l : List Int) : Option Mo :=
  (ftB k l).bind fun y => (mnB k y.2).bind fun m => (dyB k y.1 m.1 m.2).bind fun d => (ckB k d.2).bind fun c => (znB c.2).map fun z => nxM ⟨k, y.1, m.1, d.1, c.1.1, c.1.2, z.1, z.2⟩
/-- Digits and a letter: where they don't stand, nothing is taken. none: ten digits or more. -/
def ptB (c : Int) (l : List Int) : Option ((Int × Bool) × List Int) :=
  if dgs l = 0 ∨ (l.drop (dgs l)).head? ≠ some c then some ((0, false), l)
  else if 9 < dgs l then none
  else some ((dvl (l.take (dgs l)), true), l.drop (dgs l + 1))
/-- Seconds: what stands behind T beyond hours and minutes; then the end. -/
def scB (l : List Int) : Option (Int × Int) :=
  if dgs l < 1 ∨ 9 < dgs l then none
  else (nmB (dgs l) l).bind fun s => (frB s.2).bind fun f => (tkB 83 f.2).bind fun r => if r = [] then some (s.1, f.1) else none
def tmB (l : List Int) : Option (Int × Int) :=
  (ptB 72 l).bind fun h => (ptB 77 h.2).bind fun m =>
    if m.2 = [] then (if h.1.2 || m.1.2 then some (3600 * h.1.1 + 60 * m.1.1, 0) else none)
    else (scB m.2).map fun s => (3600 * h.1.1 + 60 * m.1.1 + s.1, s.2)
/-- P604. -/
def prP (l : List Int) : Option Sp :=
  let neg := l.head? = some 45
  (tkB 80 (if neg then l.tail else l)).bind fun l0 => (ptB 89 l0).bind fun y => (ptB 77 y.2).bind fun o => (ptB 68 o.2).bind fun d =>
    ((if d.2.head? = some 84 then (tmB d.2.tail) else if d.2 = [] ∧ (y.1.2 || o.1.2 || d.1.2) then some (0, 0) else none)).map fun t =>
      if neg then ⟨-(12 * y.1.1 + o.1.1), -(86400 * d.1.1 + t.1), -t.2⟩ else ⟨12 * y.1.1 + o.1.1, 86400 * d.1.1 + t.1, t.2⟩

/-! Bounds. -/
theorem dvl_in (l : List Int) (h : ∀ c ∈ l, isD c = true) : 0 ≤ dvl l ∧ dvl l < 10 ^ l.length := by
  have key : ∀ (l : List Int) (v : Int) (n : Nat), (∀ c ∈ l, isD c = true) → 0 ≤ v → v < 10 ^ n → 0 ≤ l.foldl (fun v c => 10 * v + (c - 48)) v ∧ l.foldl (fun v c => 10 * v + (c - 48)) v < 10 ^ (n + l.length) := by
    intro l
    induction l with
    | nil => intro v n _ h0 h1; exact ⟨h0, h1⟩
    | cons c l ih =>
      intro v n hd h0 h1
      have hc := hd c (by simp)
      simp [isD] at hc
      have := ih (10 * v + (c - 48)) (n + 1) (fun x hx => hd x (by simp [hx])) (by omega) (by rw [Int.pow_succ]; omega)
      rw [List.foldl_cons, List.length_cons, show n + (l.length + 1) = n + 1 + l.length by omega]
      exact this
  have := key l 0 0 h (by omega) (by simp)
  simpa [dvl] using this
theorem dgs_take {l : List Int} {n : Nat} (h : n ≤ dgs l) : (∀ c ∈ l.take n, isD c = true) ∧ (l.take n).length = n := by
  have hl : dgs l ≤ l.length := by
    unfold dgs
    exact (List.takeWhile_sublist _).length_le
  refine ⟨fun c hc => ?_, by simp; omega⟩
  have e : l.take n = (l.takeWhile isD).take n := by
    have : l.takeWhile isD <+: l := List.takeWhile_prefix _
    obtain ⟨t, ht⟩ := this
    conv => lhs; rw [← ht]
    rw [List.take_append_of_le_length (by unfold dgs at h; exact h)]
  rw [e] at hc
  have := List.mem_of_mem_take hc
  exact List.all_eq_true.1 (List.all_takeWhile) c this
theorem nm_in {n : Nat} {l : List Int} {x : Int × List Int} (h : nmB n l = some x) : 0 ≤ x.1 ∧ x.1 < 10 ^ n := by
  unfold nmB at h
  split at h
  · simp at h
  · rename_i hn
    obtain rfl := Option.some.inj h
    obtain ⟨a, b⟩ := dgs_take (l := l) (n := n) (by omega)
    have := dvl_in _ a
    rwa [b] at this
theorem in_in {lo hi : Int} {l : List Int} {x : Int × List Int} (h : inB lo hi l = some x) : lo ≤ x.1 ∧ x.1 ≤ hi := by
  unfold inB at h
  obtain ⟨y, h1, h2⟩ := Option.bind_eq_some_iff.1 h
  split at h2
  · simp at h2
  · obtain rfl := Option.some.inj h2
    omega
theorem yr_in {l : List Int} {x : Int × List Int} (h : yrB l = some x) : x.1 ≠ 0 ∧ -1000000000 < x.1 ∧ x.1 < 1000000000 := by
  unfold yrB at h
  simp only [] at h
  generalize (if l.head? = some 45 then l.tail else l) = t at h
  split at h
  · simp at h
  · rename_i hd
    obtain ⟨y, h1, h2⟩ := Option.bind_eq_some_iff.1 h
    have hb := nm_in h1
    have hp : (10 : Int) ^ dgs t ≤ 10 ^ 9 := by
      have : (10 : Nat) ^ dgs t ≤ 10 ^ 9 := Nat.pow_le_pow_right (by omega) (by omega)
      exact_mod_cast this
    split at h2
    · simp at h2
    · obtain rfl := Option.some.inj h2
      simp only []
      split <;> omega
end Go.Proofs.YtgaegajcejpmdaaGreatDoor.Dt
namespace Go.Proofs.YtgaegajcejpmdaaGreatDoor.Dt
set_option linter.unusedVariables false

theorem civ_days {l o d : Int} (h0 : 1 ≤ o) (h1 : o ≤ 12) (d0 : 1 ≤ d) (d1 : d ≤ lenL l o) : civL (daysS (bkY l) o d) = l ∧ ((civM (daysS (bkY l) o d) : Nat) : Int) = o ∧ civD (daysS (bkY l) o d) = d := by
  obtain ⟨m, rfl⟩ : ∃ m : Nat, o = m := ⟨o.toNat, by omega⟩
  have h := days_is (y := bkY l) (m := m) (d := d) (by omega) (by omega) d0 (by rw [ln_bk]; exact d1)
  rw [ln_bk] at h
  obtain ⟨a, b, c⟩ := civ_of h
  exact ⟨a, by rw [b], c⟩
/-- A moment's day stands in its month, its second in its day. -/
structure MoOk (a : Mo) : Prop where
  y : a.y ≠ 0
  m0 : 1 ≤ a.m
  m1 : a.m ≤ 12
  d0 : 1 ≤ a.d
  d1 : a.d ≤ lenL (lnY a.y) a.m
  s0 : 0 ≤ a.s
  s1 : a.s < 86400
  n0 : 0 ≤ a.n
  n1 : a.n < 1000000000
theorem MoOk.add (a : Mo) (p : Sp) : MoOk (addM a p) := by
  have h := civ_is (addN a p)
  have := h.m0
  have := h.m1
  unfold addM
  exact ⟨bk_ne _, by simp only []; omega, by simp only []; omega, h.d0, by simp only []; rw [ln_bk]; exact h.d1, by simp only []; omega, by simp only []; omega, by simp only []; omega, by simp only []; omega⟩
/-- Seconds and days are one row. -/
theorem add_days {a : Mo} (h : MoOk a) (k : Int) : (addM a ⟨0, 86400 * k, 0⟩).s = a.s ∧ (addM a ⟨0, 86400 * k, 0⟩).n = a.n ∧ daysS (addM a ⟨0, 86400 * k, 0⟩).y (addM a ⟨0, 86400 * k, 0⟩).m (addM a ⟨0, 86400 * k, 0⟩).d = daysS a.y a.m a.d + k := by
  obtain ⟨h1, h2, h3, h4⟩ := add_same (s := 86400 * k) (n := 0) h.y h.m0 h.m1 h.d1
  have hT : addT a ⟨0, 86400 * k, 0⟩ = a.s + 86400 * k := by
    have := h.n0
    have := h.n1
    unfold addT
    simp only []
    omega
  have := h.s0
  have := h.s1
  have := h.n0
  have := h.n1
  refine ⟨?_, ?_, ?_⟩
  · simp only [addM]; rw [hT]; omega
  · simp only [addM]; omega
  · simp only [addM]; rw [days_civ]; unfold addN; rw [h4, h2, h3, hT]; omega
/-- What stands on the same day at the same second is the same. -/
theorem mo_ext {a b : Mo} (ha : MoOk a) (hb : MoOk b) (hk : a.k = b.k) (hd : daysS a.y a.m a.d = daysS b.y b.m b.d) (hs : a.s = b.s) (hn : a.n = b.n) (hz : a.hz = b.hz) (hz' : a.z = b.z) : a = b := by
  have x := civ_days (l := lnY a.y) ha.m0 ha.m1 ha.d0 ha.d1
  have y := civ_days (l := lnY b.y) hb.m0 hb.m1 hb.d0 hb.d1
  rw [bk_ln ha.y] at x
  rw [bk_ln hb.y] at y
  rw [hd] at x
  have ey : a.y = b.y := by
    have := x.1.symm.trans y.1
    rw [← bk_ln ha.y, this, bk_ln hb.y]
  have em := x.2.1.symm.trans y.2.1
  have ed := x.2.2.symm.trans y.2.2
  cases a
  cases b
  simp_all
theorem cmp_eq {a b : Mo} (hk : a.k = b.k) (hz : a.hz = b.hz) : cmpM a b = ordS (linS a a.z) a.n (linS b b.z) b.n := by
  unfold cmpM
  rw [if_neg (by simpa using hk), if_pos hz]
theorem cmp_mix {a b : Mo} (hk : a.k = b.k) (ha : a.hz = true) (hb : b.hz = false) : cmpM a b = mixS a b := by
  unfold cmpM
  rw [if_neg (by simpa using hk), if_neg (by rw [ha, hb]; simp), if_pos ha]
end Go.Proofs.YtgaegajcejpmdaaGreatDoor.Dt
namespace Go.Proofs.YtgaegajcejpmdaaGreatDoor.Dt
set_option linter.unusedVariables false

theorem pow9 {n : Nat} (h : n ≤ 9) : (10 : Int) ^ n * 10 ^ (9 - n) = 1000000000 := by
  rw [← Int.pow_add, show n + (9 - n) = 9 by omega]
  decide
theorem fr_in {l : List Int} {x : Int × List Int} (h : frB l = some x) : 0 ≤ x.1 ∧ x.1 < 1000000000 := by
  unfold frB at h
  split at h
  · split at h
    · simp at h
    · rename_i hd
      obtain ⟨y, h1, rfl⟩ := Option.map_eq_some_iff.1 h
      have hb := nm_in h1
      have hp := pow9 (n := dgs l.tail) (by omega)
      have h0 : (0 : Int) < 10 ^ (9 - dgs l.tail) := Int.pow_pos (by omega)
      simp only []
      refine ⟨Int.mul_nonneg hb.1 (by omega), ?_⟩
      rw [← hp]
      exact Int.mul_lt_mul_of_pos_right hb.2 h0
  · obtain rfl := Option.some.inj h
    simp
theorem cl_in {l : List Int} {x : (Int × Int) × List Int} (h : clB l = some x) : 0 ≤ x.1.1 ∧ x.1.1 ≤ 86400 ∧ 0 ≤ x.1.2 ∧ x.1.2 < 1000000000 ∧ (x.1.1 = 86400 → x.1.2 = 0) := by
  unfold clB at h
  obtain ⟨a, ha, h⟩ := Option.bind_eq_some_iff.1 h
  obtain ⟨l1, _, h⟩ := Option.bind_eq_some_iff.1 h
  obtain ⟨b, hb, h⟩ := Option.bind_eq_some_iff.1 h
  obtain ⟨l2, _, h⟩ := Option.bind_eq_some_iff.1 h
  obtain ⟨c, hc, h⟩ := Option.bind_eq_some_iff.1 h
  obtain ⟨f, hf, h⟩ := Option.bind_eq_some_iff.1 h
  have := in_in ha
  have := in_in hb
  have := in_in hc
  have := fr_in hf
  split at h
  · simp at h
  · obtain rfl := Option.some.inj h
    simp only []
    omega
theorem zn_in {l : List Int} {x : Bool × Int} (h : znB l = some x) : -840 ≤ x.2 ∧ x.2 ≤ 840 ∧ (x.1 = false → x.2 = 0) := by
  unfold znB at h
  split at h
  · obtain rfl := Option.some.inj h; simp
  · split at h
    · split at h
      · obtain rfl := Option.some.inj h; simp
      · simp at h
    · split at h
      · obtain ⟨a, ha, h⟩ := Option.bind_eq_some_iff.1 h
        obtain ⟨l1, _, h⟩ := Option.bind_eq_some_iff.1 h
        obtain ⟨b, hb, h⟩ := Option.bind_eq_some_iff.1 h
        have := in_in ha
        have := in_in hb
        split at h
        · simp at h
        · obtain rfl := Option.some.inj h
          simp only []
          split <;> refine ⟨by omega, by omega, by simp⟩
      · simp at h
theorem ft_in {k : Int} {l : List Int} {x : Int × List Int} (h : ftB k l = some x) : x.1 ≠ 0 ∧ -1000000000 < x.1 ∧ x.1 < 1000000000 ∧ (k = 7 → x.1 = 2000) := by
  unfold ftB at h
  split at h
  · have := yr_in h
    exact ⟨this.1, this.2.1, this.2.2, by omega⟩
  · split at h
    · obtain ⟨t, _, rfl⟩ := Option.map_eq_some_iff.1 h
      simp
    · split at h
      · obtain ⟨t, _, rfl⟩ := Option.map_eq_some_iff.1 h
        simp
      · obtain rfl := Option.some.inj h
        simp
theorem mn_in {k : Int} {l : List Int} {x : Int × List Int} (h : mnB k l = some x) : 1 ≤ x.1 ∧ x.1 ≤ 12 ∧ (k = 7 → x.1 = 1) := by
  unfold mnB at h
  split at h
  · obtain ⟨t, _, h⟩ := Option.bind_eq_some_iff.1 h
    have := in_in h
    exact ⟨this.1, this.2, by omega⟩
  · obtain rfl := Option.some.inj h
    simp
theorem dy_in {k y m : Int} {l : List Int} {x : Int × List Int} (h : dyB k y m l = some x) (hm : 1 ≤ m) (hm' : m ≤ 12) (hk : k = 7 → m = 1) : 1 ≤ x.1 ∧ x.1 ≤ lenL (lnY y) m := by
  have hl := len_in (l := lnY y) hm hm'
  unfold dyB at h
  split at h
  · obtain ⟨t, _, h⟩ := Option.bind_eq_some_iff.1 h
    have := in_in h
    refine ⟨this.1, ?_⟩
    by_cases h7 : k = 7
    · rw [if_pos h7] at this
      rw [hk h7]
      have : lenL (lnY y) 1 = 31 := by unfold lenL; simp
      omega
    · rw [if_neg h7] at this
      exact this.2
  · obtain rfl := Option.some.inj h
    exact ⟨by simp, by simp only []; omega⟩
theorem ck_in {k : Int} {l : List Int} {x : (Int × Int) × List Int} (h : ckB k l = some x) : 0 ≤ x.1.1 ∧ x.1.1 ≤ 86400 ∧ 0 ≤ x.1.2 ∧ x.1.2 < 1000000000 ∧ (x.1.1 = 86400 → x.1.2 = 0) := by
  unfold ckB at h
  split at h
  · obtain ⟨t, _, h⟩ := Option.bind_eq_some_iff.1 h
    exact cl_in h
  · split at h
    · exact cl_in h
    · obtain rfl := Option.some.inj h
      simp
theorem civ_next {n l : Int} {m : Nat} {d : Int} (h : IsDay n l m d) : l ≤ civL (n + 1) ∧ civL (n + 1) ≤ l + 1 := by
  have a := h.within
  have b := (civ_is (n + 1)).within
  constructor
  · by_cases c : civL (n + 1) < l
    · have := ahd_lt c
      omega
    · omega
  · by_cases c : l + 1 < civL (n + 1)
    · have := ahd_lt c
      have := ahd_succ (l + 1)
      have := yr_two (l + 1)
      omega
    · omega
/-- A moment that was told. -/
structure Told (k : Int) (a : Mo) : Prop where
  ok : MoOk a
  k : a.k = k
  y0 : -1000000001 < a.y
  y1 : a.y < 1000000001
  z0 : -840 ≤ a.z
  z1 : a.z ≤ 840
  zn : a.hz = false → a.z = 0
theorem pr_told {k : Int} {l : List Int} {a : Mo} (h : prM k l = some a) : Told k a := by
  unfold prM at h
  obtain ⟨y, hy, h⟩ := Option.bind_eq_some_iff.1 h
  obtain ⟨m, hm, h⟩ := Option.bind_eq_some_iff.1 h
  obtain ⟨d, hd, h⟩ := Option.bind_eq_some_iff.1 h
  obtain ⟨c, hc, h⟩ := Option.bind_eq_some_iff.1 h
  obtain ⟨z, hz, rfl⟩ := Option.map_eq_some_iff.1 h
  obtain ⟨y0, y1, y2, y3⟩ := ft_in hy
  obtain ⟨m0, m1, m2⟩ := mn_in hm
  obtain ⟨d0, d1⟩ := dy_in hd m0 m1 m2
  obtain ⟨c0, c1, c2, c3, c4⟩ := ck_in hc
  obtain ⟨z0, z1, z2⟩ := zn_in hz
  clear hy hm hd hc hz h
  unfold nxM
  simp only []
  split
  · rename_i h24
    split
    · obtain ⟨mm, em⟩ : ∃ mm : Nat, m.1 = mm := ⟨m.1.toNat, by omega⟩
      have hi := civ_is (daysS y.1 m.1 d.1 + 1)
      have hday : IsDay (daysS y.1 m.1 d.1) (lnY y.1) mm d.1 := by
        rw [em] at d1 ⊢
        exact days_is (by omega) (by omega) d0 d1
      have hn := civ_next hday
      have e1 := hi.m0
      have e2 := hi.m1
      have hl : -1000000000 < lnY y.1 ∧ lnY y.1 < 1000000000 := by unfold lnY; split <;> omega
      have hbk : -1000000001 < bkY (civL (daysS y.1 m.1 d.1 + 1)) ∧ bkY (civL (daysS y.1 m.1 d.1 + 1)) < 1000000001 := by unfold bkY; split <;> omega
      exact ⟨⟨bk_ne _, by simp only []; omega, by simp only []; omega, hi.d0, by simp only []; rw [ln_bk]; exact hi.d1, by simp, by simp, c2, c3⟩, rfl, hbk.1, hbk.2, z0, z1, z2⟩
    · exact ⟨⟨y0, m0, m1, d0, d1, by simp, by simp, c2, c3⟩, rfl, by simp only []; omega, by simp only []; omega, z0, z1, z2⟩
  · rename_i h24
    exact ⟨⟨y0, m0, m1, d0, d1, c0, by simp only [] at *; omega, c2, c3⟩, rfl, by simp only []; omega, by simp only []; omega, z0, z1, z2⟩
end Go.Proofs.YtgaegajcejpmdaaGreatDoor.Dt
