/- Joined: HDcNum2, HDcNum3. -/
import Derived.Test.YtgaegajcejpmdaaGreatDoorHJ5
namespace Go.Proofs.YtgaegajcejpmdaaGreatDoor.Dc
set_option linter.unusedVariables false
set_option linter.unusedSimpArgs false

/-- Noughts struck behind the point. -/
def cT : Nat → List Int → List Int × Nat
  | 0, l => (l, 0)
  | s + 1, l => if l.getLast? = some 0 then cT s l.dropLast else (l, s + 1)
/-- Noughts struck ahead of the point. -/
def cH (s : Nat) : List Int → List Int
  | d :: l => if d = 0 ∧ s < l.length then cH s l else d :: l
  | [] => []
/-- Noughts laid ahead. -/
def cP (s : Nat) (l : List Int) : List Int := List.replicate (s + 1 - l.length) 0 ++ l
def canS (neg : Bool) (l : List Int) (s : Nat) : Nm :=
  (neg && !((cP (cT s l).2 (cH (cT s l).2 (cT s l).1)).all (· == 0)), cP (cT s l).2 (cH (cT s l).2 (cT s l).1), (cT s l).2)
theorem dropLast_snoc (m : List Int) (d : Int) : (m ++ [d]).dropLast = m := by simp
theorem cT_ok : ∀ (s : Nat) (l : List Int), Dg l → s ≤ l.length → Dg (cT s l).1 ∧ (cT s l).2 ≤ s ∧ (cT s l).2 ≤ (cT s l).1.length ∧ dval (cT s l).1 * p10 (s - (cT s l).2) = dval l ∧ ((cT s l).2 = 0 ∨ (cT s l).1.getLast? ≠ some 0) ∧ (cT s l).1.length ≤ l.length
  | 0, l, h, hs => by simp [cT, h, p10]
  | s + 1, l, h, hs => by
    rw [cT]
    by_cases e : l.getLast? = some 0
    · rw [if_pos e]
      obtain ⟨m, d, hm, hv, hl⟩ := last_mod (l := l) (fun q => by rw [q] at hs; simp at hs)
      rw [e] at hl
      have hd : d = 0 := (Option.some.inj hl).symm
      subst hd
      have hdl : l.dropLast = m := by rw [hm]; simp
      have hml : l.length = m.length + 1 := by rw [hm]; simp
      have hmd : Dg m := fun x hx => h x (by rw [hm]; simp [hx])
      rw [hdl]
      obtain ⟨q1, q2, q3, q4, q5, q6⟩ := cT_ok s m hmd (by omega)
      refine ⟨q1, by omega, q3, ?_, q5, by omega⟩
      have e2 : s + 1 - (cT s m).2 = (s - (cT s m).2) + 1 := by omega
      rw [e2, p10_succ, ← Int.mul_assoc, q4, hv]
      omega
    · rw [if_neg e]
      refine ⟨h, Nat.le_refl _, hs, by simp [p10], .inr e, Nat.le_refl _⟩
theorem cH_ok (s : Nat) : ∀ (l : List Int), Dg l → Dg (cH s l) ∧ dval (cH s l) = dval l ∧ (cH s l).getLast? = l.getLast? ∧ (cH s l).length ≤ l.length ∧ ((cH s l).length ≤ s + 1 ∨ (cH s l).head? ≠ some 0) ∧ (s ≤ l.length → s ≤ (cH s l).length)
  | [], h => by simp [cH, h]
  | d :: l, h => by
    obtain ⟨hd, hl⟩ := h.cons
    rw [cH]
    by_cases e : d = 0 ∧ s < l.length
    · rw [if_pos e]
      obtain ⟨q1, q2, q3, q4, q5, q6⟩ := cH_ok s l hl
      obtain ⟨rfl, e2⟩ := e
      refine ⟨q1, ?_, ?_, by simp; omega, q5, fun _ => q6 (by omega)⟩
      · rw [q2, dval_cons]; simp
      · rw [q3]
        cases l with
        | nil => simp at e2
        | cons x l => simp
    · rw [if_neg e]
      refine ⟨h, rfl, rfl, Nat.le_refl _, ?_, fun q => q⟩
      by_cases hd0 : d = 0
      · left
        simp only [List.length_cons]
        have : ¬ s < l.length := fun q => e ⟨hd0, q⟩
        omega
      · right
        simp [hd0]
theorem cP_ok (s : Nat) (l : List Int) (h : Dg l) (hs : s ≤ l.length) (hh : l.length ≤ s + 1 ∨ l.head? ≠ some 0) (hl : s = 0 ∨ l.getLast? ≠ some 0) : Cn (cP s l) s ∧ dval (cP s l) = dval l ∧ (cP s l).length ≤ max l.length (s + 1) := by
  unfold cP
  have hlen : (List.replicate (s + 1 - l.length) (0 : Int) ++ l).length = s + 1 - l.length + l.length := by simp
  refine ⟨⟨(Dg.rep _).app h, by omega, ?_, ?_⟩, by rw [dval_append, dval_rep]; simp, by omega⟩
  · rcases hh with q | q
    · left; omega
    · by_cases e : l.length ≤ s
      · left; omega
      · right
        have e0 : s + 1 - l.length = 0 := by omega
        rw [e0]
        simpa using q
  · rcases hl with q | q
    · exact .inl q
    · by_cases e : l = []
      · left
        rw [e] at hs
        simpa using hs
      · right
        obtain ⟨m, d, hm, _, hg⟩ := last_mod e
        rw [hg] at q
        rw [hm, ← List.append_assoc, List.getLast?_concat]
        exact q
theorem all_zero {l : List Int} (h : Dg l) : l.all (· == 0) = true ↔ dval l = 0 := by
  rw [dval_zero h, List.all_eq_true]
  constructor
  · intro q d hd
    simpa using q d hd
  · intro q d hd
    simpa using q d hd
/-- What is made canonical is, and is worth the same. -/
theorem canS_ok (neg : Bool) (l : List Int) (s : Nat) (h : Dg l) (hs : s ≤ l.length) : CN (canS neg l s) ∧ (canS neg l s).2.2 ≤ s ∧ dval (canS neg l s).2.1 * p10 (s - (canS neg l s).2.2) = dval l ∧ ((canS neg l s).1 = true ↔ neg = true ∧ dval l ≠ 0) ∧ (canS neg l s).2.1.length ≤ max l.length (s + 1) := by
  obtain ⟨q1, q2, q3, q4, q5, q6⟩ := cT_ok s l h hs
  obtain ⟨r1, r2, r3, r4, r5, r6⟩ := cH_ok (cT s l).2 (cT s l).1 q1
  obtain ⟨c1, c2, c3⟩ := cP_ok (cT s l).2 (cH (cT s l).2 (cT s l).1) r1 (r6 q3) r5 (by rw [r3]; exact q5)
  have hz := all_zero c1.dg
  have hv : dval (canS neg l s).2.1 * p10 (s - (canS neg l s).2.2) = dval l := by
    show dval (cP _ _) * p10 (s - (cT s l).2) = _
    rw [c2, r2, q4]
  have hp := p10_pos (s - (cT s l).2)
  have hd0 : dval (cP (cT s l).2 (cH (cT s l).2 (cT s l).1)) = 0 ↔ dval l = 0 := by
    rw [← hv]
    show _ ↔ dval (cP _ _) * p10 (s - (cT s l).2) = 0
    rw [Int.mul_eq_zero]
    constructor
    · intro q; exact .inl q
    · rintro (q | q)
      · exact q
      · omega
  have hneg : (canS neg l s).1 = true ↔ neg = true ∧ dval l ≠ 0 := by
    show (neg && !_) = true ↔ _
    rw [Bool.and_eq_true, Bool.not_eq_true', ← Bool.not_eq_true, hz, hd0]
  refine ⟨⟨c1, fun e => ?_⟩, q2, hv, hneg, ?_⟩
  · intro q
    exact (hneg.1 e).2 (hd0.1 q)
  · show (cP _ _).length ≤ _
    omega
theorem canS_nv (neg : Bool) (l : List Int) (s : Nat) (h : Dg l) (hs : s ≤ l.length) : nv (canS neg l s) s = if neg = true then -(dval l) else dval l := by
  obtain ⟨c1, c2, c3, c4, c5⟩ := canS_ok neg l s h hs
  unfold nv
  rw [c3]
  by_cases hz : dval l = 0
  · rw [hz]; simp
  · cases neg
    · rw [if_neg (fun q => by have := (c4.1 q).1; simp at this)]; simp
    · rw [if_pos (c4.2 ⟨rfl, hz⟩)]; simp
/-- What is canonical stays as it is. -/
theorem canS_id {n : Nm} (h : CN n) : canS n.1 n.2.1 n.2.2 = n := by
  obtain ⟨c1, c2, c3, c4, c5⟩ := canS_ok n.1 n.2.1 n.2.2 h.1.dg (by have := h.1.len; omega)
  have hv := canS_nv n.1 n.2.1 n.2.2 h.1.dg (by have := h.1.len; omega)
  refine nm_uniq (S := n.2.2) c1 h c2 (Nat.le_refl _) ?_
  rw [hv]
  unfold nv
  simp [p10]
/-- Digits read, with at most one point: them, how many stand behind it. -/
def scS : List Int → List Int → Nat → Bool → Option (List Int × Nat)
  | [], b, s, _ => some (b, s)
  | c :: l, b, s, p => if 48 ≤ c ∧ c ≤ 57 then scS l (b ++ [c - 48]) (if p = true then s + 1 else s) p else if c = 46 ∧ p = false then scS l b s true else none
def sgS : List Int → Bool × List Int
  | c :: l => if c = 43 then (false, l) else if c = 45 then (true, l) else (false, c :: l)
  | [] => (false, [])
/-- Parse: a number, or the error's number. -/
def parS (l : List Int) : Except Int Nm :=
  if 4096 < l.length then .error 3 else match scS (sgS l).2 [] 0 false with
    | none => .error 2
    | some (b, s) => if b = [] then .error 2 else .ok (canS (sgS l).1 b s)
theorem sc_t : ∀ (l b : List Int) (s : Nat) (r : List Int × Nat), Dg b → s ≤ b.length → scS l b s true = some r → Dg r.1 ∧ r.2 ≤ r.1.length ∧ r.1.length ≤ b.length + l.length
  | [], b, s, r, hb, hs, h => by
    simp only [scS, Option.some.injEq] at h
    subst h
    exact ⟨hb, hs, by simp⟩
  | c :: l, b, s, r, hb, hs, h => by
    rw [scS] at h
    by_cases hc : 48 ≤ c ∧ c ≤ 57
    · rw [if_pos hc, if_pos rfl] at h
      obtain ⟨q1, q2, q3⟩ := sc_t l _ _ r (hb.app (fun d hd => by simp at hd; omega)) (by simp; omega) h
      simp at q3
      exact ⟨q1, q2, by simp; omega⟩
    · rw [if_neg hc, if_neg (by simp)] at h
      simp at h
theorem sc_f : ∀ (l b : List Int) (r : List Int × Nat), Dg b → scS l b 0 false = some r → Dg r.1 ∧ r.2 ≤ r.1.length ∧ r.1.length ≤ b.length + l.length ∧ (r.2 = 0 ∨ r.1.length + 1 ≤ b.length + l.length)
  | [], b, r, hb, h => by
    simp only [scS, Option.some.injEq] at h
    subst h
    exact ⟨hb, Nat.zero_le _, by simp, .inl rfl⟩
  | c :: l, b, r, hb, h => by
    rw [scS] at h
    by_cases hc : 48 ≤ c ∧ c ≤ 57
    · rw [if_pos hc, if_neg (by simp)] at h
      obtain ⟨q1, q2, q3, q4⟩ := sc_f l _ r (hb.app (fun d hd => by simp at hd; omega)) h
      simp at q3 q4
      exact ⟨q1, q2, by simp; omega, by simp; omega⟩
    · rw [if_neg hc] at h
      by_cases hp : c = 46
      · rw [if_pos ⟨hp, rfl⟩] at h
        obtain ⟨q1, q2, q3⟩ := sc_t l _ _ r hb (Nat.zero_le _) h
        exact ⟨q1, q2, by simp; omega, by simp; omega⟩
      · rw [if_neg (by simp [hp])] at h
        simp at h
theorem sg_len (l : List Int) : (sgS l).2.length ≤ l.length := by
  cases l with
  | nil => simp [sgS]
  | cons c l =>
    rw [sgS]
    split
    · simp
    · split <;> simp
/-- What is read is canonical. -/
theorem par_ok {l : List Int} {n : Nm} (h : parS l = .ok n) : CN n ∧ n.2.1.length ≤ l.length ∧ n.2.1.length ≤ 4096 ∧ l.length ≤ 4096 := by
  unfold parS at h
  by_cases hl : 4096 < l.length
  · rw [if_pos hl] at h; simp at h
  · rw [if_neg hl] at h
    have hg := sg_len l
    cases hs : scS (sgS l).2 [] 0 false with
    | none => rw [hs] at h; simp at h
    | some r =>
      obtain ⟨b, s⟩ := r
      rw [hs] at h
      dsimp only at h
      by_cases hb : b = []
      · rw [if_pos hb] at h; simp at h
      · rw [if_neg hb] at h
        have hn : canS (sgS l).1 b s = n := by simpa using h
        obtain ⟨q1, q2, q3, q4⟩ := sc_f _ [] (b, s) (fun d hd => by simp at hd) hs
        obtain ⟨c1, c2, c3, c4, c5⟩ := canS_ok (sgS l).1 b s q1 q2
        rw [hn] at c1 c2 c3 c4 c5
        have hbl : 0 < b.length := List.length_pos_iff.2 hb
        dsimp only at q2 q3 q4
        simp at q3 q4
        exact ⟨c1, by omega, by omega, by omega⟩
/-- Text. -/
def txS (n : Nm) : List Int := (if n.1 = true then [45] else []) ++ ((n.2.1.take (n.2.1.length - n.2.2)).map (· + 48) ++ (if n.2.2 = 0 then [] else 46 :: (n.2.1.drop (n.2.1.length - n.2.2)).map (· + 48)))
theorem sc_digits : ∀ (ds rest b : List Int) (s : Nat) (p : Bool), Dg ds → scS (ds.map (· + 48) ++ rest) b s p = scS rest (b ++ ds) (if p = true then s + ds.length else s) p
  | [], rest, b, s, p, h => by simp
  | d :: ds, rest, b, s, p, h => by
    obtain ⟨hd, hl⟩ := h.cons
    rw [List.map_cons, List.cons_append, scS, if_pos (by omega), sc_digits ds rest _ _ p hl]
    have e : d + 48 - 48 = d := by omega
    rw [e, List.append_assoc]
    cases p
    · rfl
    · simp only [if_true, List.length_cons, List.singleton_append]
      congr 1
      omega
/-- What is written is read as it was. -/
theorem par_tx {n : Nm} (h : CN n) (hl : (txS n).length ≤ 4096) : parS (txS n) = .ok n := by
  have hdg := h.1.dg
  have hlen := h.1.len
  obtain ⟨neg, ds, sc⟩ := n
  dsimp only at *
  have hd1 : Dg (ds.take (ds.length - sc)) := fun d hd => hdg d (List.mem_of_mem_take hd)
  have hd2 : Dg (ds.drop (ds.length - sc)) := fun d hd => hdg d (List.mem_of_mem_drop hd)
  have hsc : ∀ b, scS ((ds.take (ds.length - sc)).map (· + 48) ++ (if sc = 0 then [] else 46 :: (ds.drop (ds.length - sc)).map (· + 48))) b 0 false = some (b ++ ds, sc) := by
    intro b
    rw [sc_digits _ _ _ _ _ hd1]
    by_cases h0 : sc = 0
    · subst h0
      simp [scS]
    · rw [if_neg h0, scS, if_neg (by omega), if_pos ⟨rfl, rfl⟩]
      have := sc_digits (ds.drop (ds.length - sc)) [] (b ++ ds.take (ds.length - sc)) 0 true hd2
      rw [List.append_nil] at this
      simp only [Bool.false_eq_true, if_false]
      rw [this, scS, List.append_assoc, List.take_append_drop]
      simp
      omega
  have hne : ds ≠ [] := fun e => by rw [e] at hlen; simp at hlen
  have hsg : sgS (txS (neg, ds, sc)) = (neg, (ds.take (ds.length - sc)).map (· + 48) ++ (if sc = 0 then [] else 46 :: (ds.drop (ds.length - sc)).map (· + 48))) := by
    unfold txS
    dsimp only
    cases neg
    · cases ds with
      | nil => exact absurd rfl hne
      | cons d ds =>
        have hd := (hdg.cons).1
        have e : (d :: ds).length - sc = ((d :: ds).length - sc - 1) + 1 := by omega
        rw [e]
        simp only [Bool.false_eq_true, if_false, List.nil_append, List.take_succ_cons, List.map_cons, List.cons_append]
        rw [sgS, if_neg (by omega), if_neg (by omega)]
    · simp [sgS]
  unfold parS
  rw [if_neg (by omega), hsg]
  dsimp only
  rw [hsc []]
  dsimp only
  rw [List.nil_append, if_neg hne]
  exact congrArg Except.ok (canS_id (n := (neg, ds, sc)) h)
theorem tx_inj {a b : Nm} (ha : CN a) (hb : CN b) (hl : (txS a).length ≤ 4096) (h : txS a = txS b) : a = b := by
  have h1 := par_tx ha hl
  have h2 := par_tx hb (by rw [← h]; exact hl)
  rw [h, h2] at h1
  simpa using h1.symm
theorem tx_len (n : Nm) (h : CN n) : (txS n).length ≤ n.2.1.length + 2 := by
  unfold txS
  have := h.1.len
  split <;> split <;> simp <;> omega
/-- Right, of whatever digits. -/
def rgS (neg : Bool) (l : List Int) (sc : Int) : Bool :=
  decide (1 ≤ l.length ∧ l.length ≤ 4096 ∧ 0 ≤ sc ∧ sc ≤ l.length - 1) && l.all (fun d => decide (d ≤ 9)) && (decide ((l.length : Int) - sc = 1) || !(l.head? == some 0)) && (decide (sc = 0) || !(l.getLast? == some 0)) && !(l.all (· == 0) && neg)
theorem rg_ok {n : Nm} (h : CN n) (hl : n.2.1.length ≤ 4096) : rgS n.1 n.2.1 n.2.2 = true := by
  have h1 := h.1.len
  have h2 := h.1.hd
  have h3 := h.1.lt
  unfold rgS
  simp only [Bool.and_eq_true, decide_eq_true_eq, Bool.or_eq_true, Bool.not_eq_true', List.all_eq_true]
  refine ⟨⟨⟨⟨by omega, fun d hd => (h.1.dg d hd).2⟩, ?_⟩, ?_⟩, ?_⟩
  · rcases h2 with q | q
    · exact .inl (by omega)
    · exact .inr (by simpa using q)
  · rcases h3 with q | q
    · exact .inl (by omega)
    · exact .inr (by simpa using q)
  · rw [Bool.and_eq_false_iff]
    cases hn : n.1 with
    | false => exact .inr rfl
    | true =>
      left
      rw [← Bool.not_eq_true, all_zero h.1.dg]
      exact h.2 hn
end Go.Proofs.YtgaegajcejpmdaaGreatDoor.Dc
namespace Go.Proofs.YtgaegajcejpmdaaGreatDoor.Dc
set_option linter.unusedVariables false
set_option linter.unusedSimpArgs false

/-- Digits laid out from the place x - 1 down to the place -s. -/
def ext (l : List Int) (sc x s : Nat) : List Int := List.replicate (x - (l.length - sc)) 0 ++ (l ++ List.replicate (s - sc) 0)
theorem ext_len {l : List Int} {sc x s : Nat} (h1 : sc ≤ l.length) (h2 : l.length - sc ≤ x) (h3 : sc ≤ s) : (ext l sc x s).length = x + s := by
  unfold ext
  simp
  omega
theorem ext_dg {l : List Int} {sc x s : Nat} (h : Dg l) : Dg (ext l sc x s) := (Dg.rep _).app (h.app (Dg.rep _))
theorem ext_val (l : List Int) (sc x s : Nat) : dval (ext l sc x s) = dval l * p10 (s - sc) := by
  unfold ext
  rw [dval_append, dval_rep, dval_append, dval_rep]
  simp
/-- A sum from the right: what is carried, and the digits. -/
def addL : List Int → List Int → Int × List Int
  | a :: aas, b :: bs => ((a + b + (addL aas bs).1) / 10, (a + b + (addL aas bs).1) % 10 :: (addL aas bs).2)
  | _, _ => (0, [])
theorem addL_ok : ∀ {a b : List Int}, a.length = b.length → Dg a → Dg b → (addL a b).2.length = a.length ∧ Dg (addL a b).2 ∧ dval (addL a b).2 + (addL a b).1 * p10 a.length = dval a + dval b ∧ 0 ≤ (addL a b).1 ∧ (addL a b).1 ≤ 1
  | [], [], _, _, _ => by simp [addL, dval_nil, Dg]
  | a :: aas, b :: bs, hl, ha, hb => by
    obtain ⟨hd1, h1⟩ := ha.cons
    obtain ⟨hd2, h2⟩ := hb.cons
    have hl' : aas.length = bs.length := by simpa using hl
    obtain ⟨q1, q2, q3, q4, q5⟩ := addL_ok hl' h1 h2
    rw [addL]
    generalize addL aas bs = R at *
    obtain ⟨c, o⟩ := R
    dsimp only at *
    refine ⟨by simp [q1], ?_, ?_, by omega, by omega⟩
    · intro d hd
      rcases List.mem_cons.1 hd with e | e
      · omega
      · exact q2 d e
    · rw [dval_cons, dval_cons, dval_cons, q1, List.length_cons, p10_succ, ← hl']
      have e : (a + b + c) % 10 + (a + b + c) / 10 * 10 = a + b + c := by omega
      have e2 : ((a + b + c) % 10 + (a + b + c) / 10 * 10) * p10 aas.length = (a + b + c) * p10 aas.length := by rw [e]
      rw [Int.add_mul, Int.add_mul, Int.add_mul] at e2
      have e3 : (a + b + c) / 10 * (p10 aas.length * 10) = (a + b + c) / 10 * 10 * p10 aas.length := by
        rw [Int.mul_assoc, Int.mul_comm (p10 aas.length) 10]
      rw [e3]
      omega
/-- A difference from the right: what is borrowed, and the digits. -/
def subL : List Int → List Int → Int × List Int
  | a :: aas, b :: bs => (if a - b - (subL aas bs).1 < 0 then 1 else 0, (if a - b - (subL aas bs).1 < 0 then a - b - (subL aas bs).1 + 10 else a - b - (subL aas bs).1) :: (subL aas bs).2)
  | _, _ => (0, [])
theorem subL_ok : ∀ {a b : List Int}, a.length = b.length → Dg a → Dg b → (subL a b).2.length = a.length ∧ Dg (subL a b).2 ∧ dval (subL a b).2 - (subL a b).1 * p10 a.length = dval a - dval b ∧ 0 ≤ (subL a b).1 ∧ (subL a b).1 ≤ 1
  | [], [], _, _, _ => by simp [subL, dval_nil, Dg]
  | a :: aas, b :: bs, hl, ha, hb => by
    obtain ⟨hd1, h1⟩ := ha.cons
    obtain ⟨hd2, h2⟩ := hb.cons
    have hl' : aas.length = bs.length := by simpa using hl
    obtain ⟨q1, q2, q3, q4, q5⟩ := subL_ok hl' h1 h2
    rw [subL]
    generalize subL aas bs = R at *
    obtain ⟨c, o⟩ := R
    dsimp only at *
    by_cases hlt : a - b - c < 0
    · rw [if_pos hlt, if_pos hlt]
      refine ⟨by simp [q1], ?_, ?_, by omega, by omega⟩
      · intro d hd
        rcases List.mem_cons.1 hd with e | e
        · omega
        · exact q2 d e
      · rw [dval_cons, dval_cons, dval_cons, q1, List.length_cons, p10_succ, ← hl']
        have e2 : (a - b - c + 10) * p10 aas.length = a * p10 aas.length - b * p10 aas.length - c * p10 aas.length + 10 * p10 aas.length := by
          rw [Int.add_mul, Int.sub_mul, Int.sub_mul]
        rw [e2]
        omega
    · rw [if_neg hlt, if_neg hlt]
      refine ⟨by simp [q1], ?_, ?_, by omega, by omega⟩
      · intro d hd
        rcases List.mem_cons.1 hd with e | e
        · omega
        · exact q2 d e
      · rw [dval_cons, dval_cons, dval_cons, q1, List.length_cons, p10_succ, ← hl']
        have e2 : (a - b - c) * p10 aas.length = a * p10 aas.length - b * p10 aas.length - c * p10 aas.length := by
          rw [Int.sub_mul, Int.sub_mul]
        rw [e2]
        omega
/-- The greater number of places ahead of the point, behind it. -/
def hiX (a b : Nm) : Nat := max (a.2.1.length - a.2.2) (b.2.1.length - b.2.2)
def hiS (a b : Nm) : Nat := max a.2.2 b.2.2
/-- Both laid out alike, with one place more ahead. -/
def exA (a b : Nm) : List Int := ext a.2.1 a.2.2 (hiX a b + 1) (hiS a b)
def exB (a b : Nm) : List Int := ext b.2.1 b.2.2 (hiX a b + 1) (hiS a b)
def szS (a b : Nm) : Int := lexS (exA a b) (exB a b)
def cmpS (a b : Nm) : Int := if a.1 ≠ b.1 then (if a.1 = true then -1 else 1) else if a.1 = true then -(szS a b) else szS a b
/-- The sum, made canonical. -/
def smS (a b : Nm) : Nm :=
  if a.1 = b.1 then canS a.1 (addL (exA a b) (exB a b)).2 (hiS a b)
  else if szS a b < 0 then canS b.1 (subL (exB a b) (exA a b)).2 (hiS a b)
  else canS a.1 (subL (exA a b) (exB a b)).2 (hiS a b)
def adS (a b : Nm) : Except Int Nm := if 4096 < (smS a b).2.1.length then .error 3 else .ok (smS a b)
theorem ex_ok {a b : Nm} (ha : CN a) (hb : CN b) : (exA a b).length = hiX a b + 1 + hiS a b ∧ (exB a b).length = hiX a b + 1 + hiS a b ∧ Dg (exA a b) ∧ Dg (exB a b) ∧ dval (exA a b) = dval a.2.1 * p10 (hiS a b - a.2.2) ∧ dval (exB a b) = dval b.2.1 * p10 (hiS a b - b.2.2) := by
  have h1 := ha.1.len
  have h2 := hb.1.len
  refine ⟨ext_len (by omega) (by unfold hiX; omega) (by unfold hiS; omega), ext_len (by omega) (by unfold hiX; omega) (by unfold hiS; omega), ext_dg ha.1.dg, ext_dg hb.1.dg, ext_val _ _ _ _, ext_val _ _ _ _⟩
theorem dval_lt {l : List Int} {s S : Nat} (h : Dg l) (hs : s ≤ S) {x : Nat} (hx : l.length - s ≤ x) (hl : s ≤ l.length) : dval l * p10 (S - s) < p10 (x + S) := by
  have hv := (dval_bd h).2
  have hp := p10_pos (S - s)
  have h1 : dval l * p10 (S - s) < p10 l.length * p10 (S - s) := Int.mul_lt_mul_of_pos_right hv hp
  rw [← p10_add] at h1
  have h2 := p10_mono (a := l.length + (S - s)) (b := x + S) (by omega)
  omega
/-- Each is worth what it is worth, at the common scale. -/
theorem nv_ex {a b : Nm} (ha : CN a) (hb : CN b) : nv a (hiS a b) = (if a.1 = true then -(dval (exA a b)) else dval (exA a b)) ∧ nv b (hiS a b) = (if b.1 = true then -(dval (exB a b)) else dval (exB a b)) := by
  obtain ⟨_, _, _, _, h5, h6⟩ := ex_ok ha hb
  rw [h5, h6]
  exact ⟨rfl, rfl⟩
/-- Orders by worth. -/
theorem cmp_ok {a b : Nm} (ha : CN a) (hb : CN b) : (cmpS a b = -1 ∧ nv a (hiS a b) < nv b (hiS a b)) ∨ (cmpS a b = 0 ∧ nv a (hiS a b) = nv b (hiS a b)) ∨ (cmpS a b = 1 ∧ nv b (hiS a b) < nv a (hiS a b)) := by
  obtain ⟨e1, e2, e3, e4, e5, e6⟩ := ex_ok ha hb
  obtain ⟨n1, n2⟩ := nv_ex ha hb
  have hl := lex_val (e1.trans e2.symm) e3 e4
  have v1 := (dval_bd e3).1
  have v2 := (dval_bd e4).1
  have z1 : a.1 = true → dval (exA a b) ≠ 0 := fun q e => by
    rw [e5] at e
    have hp := p10_pos (hiS a b - a.2.2)
    rcases Int.mul_eq_zero.1 e with r | r
    · exact ha.2 q r
    · omega
  have z2 : b.1 = true → dval (exB a b) ≠ 0 := fun q e => by
    rw [e6] at e
    have hp := p10_pos (hiS a b - b.2.2)
    rcases Int.mul_eq_zero.1 e with r | r
    · exact hb.2 q r
    · omega
  rw [n1, n2]
  unfold cmpS szS
  cases h1 : a.1 <;> cases h2 : b.1
  · simp only [ne_eq, not_true_eq_false, if_false, Bool.false_eq_true]
    rcases hl with ⟨q1, q2⟩ | ⟨q1, q2⟩ | ⟨q1, q2⟩
    · exact .inl ⟨q1, q2⟩
    · exact .inr (.inl ⟨q1, by rw [q2]⟩)
    · exact .inr (.inr ⟨q1, q2⟩)
  · have := z2 h2
    simp
    omega
  · have := z1 h1
    simp
    omega
  · simp only [ne_eq, not_true_eq_false, if_false, if_true]
    rcases hl with ⟨q1, q2⟩ | ⟨q1, q2⟩ | ⟨q1, q2⟩
    · exact .inr (.inr ⟨by omega, by omega⟩)
    · exact .inr (.inl ⟨by omega, by rw [q2]⟩)
    · exact .inl ⟨by omega, by omega⟩
theorem sz_ok {a b : Nm} (ha : CN a) (hb : CN b) : (szS a b < 0 ∧ dval (exA a b) < dval (exB a b)) ∨ (¬ szS a b < 0 ∧ dval (exB a b) ≤ dval (exA a b)) := by
  obtain ⟨e1, e2, e3, e4, _⟩ := ex_ok ha hb
  unfold szS
  rcases lex_val (e1.trans e2.symm) e3 e4 with ⟨q1, q2⟩ | ⟨q1, q2⟩ | ⟨q1, q2⟩
  · exact .inl ⟨by omega, q2⟩
  · exact .inr ⟨by omega, by rw [q2]; omega⟩
  · exact .inr ⟨by omega, by omega⟩
/-- A sum is canonical, and worth the sum. -/
theorem sm_ok {a b : Nm} (ha : CN a) (hb : CN b) : CN (smS a b) ∧ (smS a b).2.2 ≤ hiS a b ∧ nv (smS a b) (hiS a b) = nv a (hiS a b) + nv b (hiS a b) ∧ (smS a b).2.1.length ≤ hiX a b + 1 + hiS a b := by
  obtain ⟨e1, e2, e3, e4, e5, e6⟩ := ex_ok ha hb
  obtain ⟨n1, n2⟩ := nv_ex ha hb
  have la := ha.1.len
  have lb := hb.1.len
  have hX : 1 ≤ hiX a b := by unfold hiX; omega
  unfold smS
  by_cases hs : a.1 = b.1
  · rw [if_pos hs]
    obtain ⟨q1, q2, q3, q4, q5⟩ := addL_ok (e1.trans e2.symm) e3 e4
    have b1 := dval_lt ha.1.dg (s := a.2.2) (S := hiS a b) (by unfold hiS; omega) (x := hiX a b) (by unfold hiX; omega) (by omega)
    have b2 := dval_lt hb.1.dg (s := b.2.2) (S := hiS a b) (by unfold hiS; omega) (x := hiX a b) (by unfold hiX; omega) (by omega)
    rw [← e5] at b1
    rw [← e6] at b2
    have hc : (addL (exA a b) (exB a b)).1 = 0 := by
      apply Classical.byContradiction
      intro hne
      have h1 : (addL (exA a b) (exB a b)).1 = 1 := by omega
      rw [h1, e1] at q3
      have hv := (dval_bd q2).1
      have hp : p10 (hiX a b + 1 + hiS a b) = p10 (hiX a b + hiS a b) * 10 := by
        have : hiX a b + 1 + hiS a b = hiX a b + hiS a b + 1 := by omega
        rw [this, p10_succ]
      have := p10_pos (hiX a b + hiS a b)
      omega
    rw [hc] at q3
    have hlen : hiS a b ≤ (addL (exA a b) (exB a b)).2.length := by omega
    obtain ⟨c1, c2, c3, c4, c5⟩ := canS_ok a.1 _ (hiS a b) q2 hlen
    have hv := canS_nv a.1 _ (hiS a b) q2 hlen
    refine ⟨c1, c2, ?_, by omega⟩
    rw [hv, n1, n2, ← hs]
    have q3' : dval (addL (exA a b) (exB a b)).2 = dval (exA a b) + dval (exB a b) := by omega
    rw [q3']
    split <;> omega
  · rw [if_neg hs]
    have hz := sz_ok ha hb
    by_cases hlt : szS a b < 0
    · rw [if_pos hlt]
      obtain ⟨q1, q2, q3, q4, q5⟩ := subL_ok (e2.trans e1.symm) e4 e3
      have hge : dval (exA a b) < dval (exB a b) := by
        rcases hz with ⟨_, q⟩ | ⟨q, _⟩
        · exact q
        · exact absurd hlt q
      have hv0 := dval_bd q2
      have hc : (subL (exB a b) (exA a b)).1 = 0 := by
        apply Classical.byContradiction
        intro hne
        have h1 : (subL (exB a b) (exA a b)).1 = 1 := by omega
        rw [h1] at q3
        rw [q1] at hv0
        omega
      rw [hc] at q3
      have hlen : hiS a b ≤ (subL (exB a b) (exA a b)).2.length := by omega
      obtain ⟨c1, c2, c3, c4, c5⟩ := canS_ok b.1 _ (hiS a b) q2 hlen
      have hv := canS_nv b.1 _ (hiS a b) q2 hlen
      refine ⟨c1, c2, ?_, by omega⟩
      rw [hv, n1, n2]
      cases h1 : a.1 <;> cases h2 : b.1
      · exact absurd (h1.trans h2.symm) hs
      · simp; omega
      · simp; omega
      · exact absurd (h1.trans h2.symm) hs
    · rw [if_neg hlt]
      obtain ⟨q1, q2, q3, q4, q5⟩ := subL_ok (e1.trans e2.symm) e3 e4
      have hge : dval (exB a b) ≤ dval (exA a b) := by
        rcases hz with ⟨q, _⟩ | ⟨_, q⟩
        · exact absurd q hlt
        · exact q
      have hv0 := dval_bd q2
      have hc : (subL (exA a b) (exB a b)).1 = 0 := by
        apply Classical.byContradiction
        intro hne
        have h1 : (subL (exA a b) (exB a b)).1 = 1 := by omega
        rw [h1] at q3
        rw [q1] at hv0
        omega
      rw [hc] at q3
      have hlen : hiS a b ≤ (subL (exA a b) (exB a b)).2.length := by omega
      obtain ⟨c1, c2, c3, c4, c5⟩ := canS_ok a.1 _ (hiS a b) q2 hlen
      have hv := canS_nv a.1 _ (hiS a b) q2 hlen
      refine ⟨c1, c2, ?_, by omega⟩
      rw [hv, n1, n2]
      cases h1 : a.1 <;> cases h2 : b.1
      · exact absurd (h1.trans h2.symm) hs
      · simp; omega
      · simp; omega
      · exact absurd (h1.trans h2.symm) hs
end Go.Proofs.YtgaegajcejpmdaaGreatDoor.Dc
