/- A class: plain; an append of a set to a row of ranges. -/
import Derived.Test.YthlkbijpphdblaaB2
namespace Go.Proofs.Ythlkbijpphdblaa
open Go.RowKit
set_option linter.unusedVariables false

theorem app_ty {P : Program} (w : World) (t t' ty e e' : TypeId) (ht : P.underlying t = some (.slice e)) (ht' : P.underlying t' = some (.slice e')) (b : Option Addr) (n c : Nat) (x : Value) : (Builtin.append_ #[t, t'] ty #[.slice b n c, x]).run P w = (Builtin.append_ #[t, t] ty #[.slice b n c, x]).run P w := by
  simp [Builtin.append_, run_underlying ht, run_underlying ht']
theorem wp_app2 {P : Program} (w : World) {o : Oper} {a : Act} {K : Act → World → Prop} {Q : Exit → Act → World → Prop} (s x : Operand) (t t' : TypeId) {e' : TypeId} (ht' : P.underlying t' = some (.slice e'))
    (ho : o.op = .call { callee := .builtin .append, args := #[s, x], argTypes := #[t, t'] })
    (base : Nat) (e : TypeId) (i : TypeInfo) (z : Value) (size bytes : Nat) (ht : P.underlying t = some (.slice e)) (hi : P.info? e = some i) (hz : i.zero = some z)
    (hsize : i.size = size) (hby : i.bytes = bytes) (hzs : z.cells.size = size) (hsz : 0 < size)
    (v : Value) (n : Nat) (xs : List Value) (hs : a.eval s = v) (hown : w.ownsRow base e size v n xs)
    (ad : Option Addr) (m c : Nat) (news : List Value) (hx : a.eval x = .slice ad m c) (hl : news.length = m * size) (hsrc : m = 0 ∨ ∃ ad', ad = some ad' ∧ ∀ j u, news[j]? = some u → w.cell? (ad'.add j) = some u) (h1 : ∀ u ∈ news, u.oneCell' = true)
    (h63 : n + m ≤ maxLen) (hbytes : (n + m) * bytes ≤ 140737488355328) (hbase : base ≤ w.heap.size)
    (h : ∀ v' w', w'.ownsRow base e size v' (n + m) (xs ++ news) → w.grownBy w' v.ownBlock → (v'.ownBlock = v.ownBlock ∨ v'.ownBlock = some w.heap.size) → K (a.put o.dst v') w') : o.wp P a w K Q := by
  obtain ⟨v', w', hr, h2, h3, h4⟩ := run_app (P := P) w base t o.type e i z size bytes ht hi hz hsize hby hzs hsz v n xs hown ad m c news hl hsrc h1 h63 hbytes hbase
  obtain ⟨vb, vc, rfl⟩ := row_form hown
  rw [← app_ty w t t' o.type e e' ht ht'] at hr
  unfold Oper.wp execOp
  simp only [ho, resolve, invoke, builtin, Sem.run_bind, Sem.run_pure, Result.andThen_ok, List.map_toArray, List.map_cons, List.map_nil, hs, hx, hr]
  exact h v' w' h2 h3 h4
theorem wpList_cat2 {ops : Array Oper} {rest : List Oper} {o : Oper} {a : Act} {Q : Exit → Act → World → Prop} (w : World) (k : IntKind) (e t t' : TypeId) {e' : TypeId} (ht' : Try.prog.underlying t' = some (.slice e')) (i : TypeInfo) (z : Value) (bytes : Nat) (ht : Try.prog.underlying t = some (.slice e)) (hi : Try.prog.info? e = some i) (hz : i.zero = some z) (hzc : z.cells.size = 2) (hz1 : i.size = 2) (hz3 : i.bytes = bytes) (hby : bytes ≤ 16)
    (s x : Operand) (hgd : o.guard = none) (ho : o.op = .call { callee := .builtin .append, args := #[s, x], argTypes := #[t, t'] }) (base : Nat) (v u : Value) (l m : List Rg) (hs : a.eval s = v) (hown : Own k e w base v l) (hx : a.eval x = u) (hu : Sl k w u m) (hl : l.length + m.length ≤ 1000000) (hbase : base ≤ w.heap.size)
    (h : ∀ v' w', Own k e w' base v' (l ++ m) → Below base w w' → wpList Try.prog ops Q rest (a.put o.dst v') w') : wpList Try.prog ops Q (o :: rest) a w := by
  obtain ⟨ad, c, rfl, hc⟩ := hu.len
  refine wpList_plain hgd fun _ hK => wp_app2 w s x t t' ht' ho base e i z 2 bytes ht hi hz hz1 hz3 hzc (by decide) v l.length (l.flatMap (ec k)) hs hown ad m.length c (m.flatMap (ec k)) hx (ec_len k m) (sl_news hu) (ec_one k m) (by unfold maxLen; omega) (by have : (l.length + m.length) * bytes ≤ 1000000 * 16 := Nat.mul_le_mul hl hby; omega) hbase fun v' w' h2 h3 h4 => hK _ _ ?_
  refine h v' w' ?_ ((Below.refl base w).grown h3 hbase (fun j hj => (row_base hown j hj).1))
  show w'.ownsRow base e 2 v' (l ++ m).length ((l ++ m).flatMap (ec k))
  rw [List.length_append, List.flatMap_append]
  exact h2
theorem In.belowb {P k o base : Nat} {w w' : World} {vb : Value} {l : Bs} (h : In P w vb l k o) (hb : Below base w w') (hP : P < base) : In P w' vb l k o := by
  refine ⟨(hb.block _ hP).trans h.ps, ?_, h.kl, h.ll, h.oo⟩
  obtain ⟨hbt, a, cap, rfl, h1, h2, h3⟩ := h.br
  refine ⟨hbt, a, cap, rfl, h1, h2, ?_⟩
  rcases h3 with h | ⟨B, rfl, hB, h⟩
  · exact .inl h
  · exact .inr ⟨B, rfl, hB, fun i hi => (hb.cell (p := ⟨B, i, none⟩) (by show B < base; omega)).trans (h i hi)⟩
theorem fro_base {O : Nat → Prop} {w W W' : World} (h : Fro O w W) (hb : Below w.heap.size W W') : Fro O w W' :=
  ⟨hb.os.trans h.os, hb.tape.trans h.tape, hb.output.trans h.output, Nat.le_trans h.size hb.size, fun k hk hO => (hb.block k hk).trans (h.block k hk hO)⟩
/-- The letters of one set that are not in another. -/
def mnF (a b : List Rg) : List Rg := ofR (bothL (a.length + (notR 0 b).length) a (notR 0 b))
theorem mn_same {a b n s : List Rg} (ha : Cn a) (hb : Cn b) (hn : NotS b n) (hs : BothS a n s) : mnF a b = s := by
  have e := not_same hb hn
  subst e
  have q := both_S ha hn.cn (ofR_ok (bothL (a.length + (notR 0 b).length) a (notR 0 b)))
  exact cn_ext _ _ q.cn hs.cn (fun x => (q.mem x).trans (hs.mem x).symm)
theorem mn_cn {a b : List Rg} : Cn (mnF a b) := (ofR_ok _).cn
theorem both_len : ∀ (n : Nat) (a b : List Rg), (bothL n a b).length ≤ n
  | 0, a, b => by cases a <;> cases b <;> simp [bothL]
  | n + 1, [], b => by rw [both_nil1]; simp
  | n + 1, r :: a, [] => by rw [both_nil2]; simp
  | n + 1, r :: a, s :: b => by
    show (_ :: (if _ then _ else _) : List Rg).length ≤ n + 1
    rw [List.length_cons]
    split
    · have := both_len n a (s :: b); omega
    · have := both_len n (r :: a) b; omega
theorem ofR_le (l : List Rg) : (ofR l).length ≤ l.length := by
  obtain h := ofR_ok l
  unfold ofR
  have hp : ∀ (L S : List Rg), (L.foldl (fun s r => putG false r s) S).length ≤ S.length + L.length := by
    intro L
    induction L with
    | nil => intro S; simp
    | cons r L ih =>
      intro S
      rw [List.foldl_cons]
      have h1 := ih (putG false r S)
      have h2 : (putG false r S).length ≤ S.length + 1 := by
        have hg : ∀ (l : List Rg) (d : Bool) (r : Rg), (putG d r l).length ≤ l.length + 1 ∧ (d = true → (putG d r l).length ≤ l.length) := by
          intro l
          induction l with
          | nil => intro d r; rw [put_nil]; cases d <;> simp
          | cons x l ih =>
            intro d r
            rw [put_cons]
            have i1 := ih d r
            have i2 := ih true r
            have i3 := ih d (min x.1 r.1, max x.2 r.2)
            split
            · simp only [List.length_cons]; exact ⟨by omega, fun e => by have := i1.2 e; omega⟩
            · split
              · have := i2.2 rfl
                cases d
                · simp; omega
                · simp; omega
              · exact ⟨by have := i3.1; simp; omega, fun e => by have := i3.2 e; simp; omega⟩
        exact (hg S false r).1
      simp
      omega
  have := hp (cut l) []
  have := cut_len l
  simp at *
  omega
theorem notR_le : ∀ (l : List Rg) (f : Int), (notR f l).length ≤ l.length + 1
  | [], f => by unfold notR; split <;> simp
  | r :: l, f => by
    have := notR_le l (r.2 + 1)
    unfold notR
    split <;> simp <;> omega
theorem mn_len (a b : List Rg) : (mnF a b).length ≤ a.length + b.length + 1 := by
  have h1 := ofR_le (bothL (a.length + (notR 0 b).length) a (notR 0 b))
  have h2 := both_len (a.length + (notR 0 b).length) a (notR 0 b)
  have h3 := notR_le b 0
  unfold mnF
  omega
/-- The members of a class, as far as they go. -/
def mlS (l : Bs) : Nat → Bool → List Rg → Nat → R (List Rg)
  | 0, _, _, _ => out
  | f + 1, true, acc, k => (mbS l true k).bind fun s k' => mlS l f false (acc ++ s) k'
  | f + 1, false, acc, k => (ceS l k).bind fun b _ => if b = true then .ok acc k else (mbS l false k).bind fun s k' => mlS l f false (acc ++ s) k'
theorem ml_ok {l : Bs} (hb : ∀ i, 0 ≤ l.getD i 0 ∧ l.getD i 0 < 256) : ∀ (f : Nat) (first : Bool) (acc : List Rg) (k : Nat) (acc' : List Rg) (k3 : Nat), mlS l f first acc k = .ok acc' k3 → acc'.length ≤ acc.length + 6 * (k3 - k) ∧ k ≤ k3 ∧ ∃ k', ceS l k3 = .ok true k'
  | 0, first, acc, k, acc', k3, h => by cases first <;> cases h
  | f + 1, true, acc, k, acc', k3, h => by
    have h' : ((mbS l true k).bind fun s k' => mlS l f false (acc ++ s) k') = .ok acc' k3 := h
    cases hr : mbS l true k with
    | bad p e => rw [hr] at h'; cases h'
    | ok s k1 =>
      have o1 := mb_ok hb hr
      rw [hr, R.bind_ok] at h'
      obtain ⟨a, b, c⟩ := ml_ok hb f _ _ _ _ _ h'
      have := o1.len
      have := o1.lt
      rw [List.length_append] at a
      exact ⟨by omega, by omega, c⟩
  | f + 1, false, acc, k, acc', k3, h => by
    have h' : ((ceS l k).bind fun b _ => if b = true then .ok acc k else (mbS l false k).bind fun s k' => mlS l f false (acc ++ s) k') = .ok acc' k3 := h
    cases hc : ceS l k with
    | bad p e => rw [hc] at h'; cases h'
    | ok b k0 =>
      rw [hc, R.bind_ok] at h'
      cases b with
      | true =>
        rw [if_pos rfl] at h'
        injection h' with h1 h2
        subst h1
        subst h2
        exact ⟨by omega, Nat.le_refl _, k0, hc⟩
      | false =>
        rw [if_neg (by decide)] at h'
        cases hr : mbS l false k with
        | bad p e => rw [hr] at h'; cases h'
        | ok s k1 =>
          have o1 := mb_ok hb hr
          rw [hr, R.bind_ok] at h'
          obtain ⟨a, b, c⟩ := ml_ok hb f _ _ _ _ _ h'
          have := o1.len
          have := o1.lt
          rw [List.length_append] at a
          exact ⟨by omega, by omega, c⟩
/-- A sign of one byte is read as it. -/
theorem sk_let {l : Bs} {c : Int} {k : Nat} (hc : c < 128) (h : skB l c k = true) : lt l k = c ∧ ln l k = 1 := by
  unfold skB at h
  simp only [Bool.and_eq_true, decide_eq_true_eq, beq_iff_eq] at h
  have e : (l.drop k).getD 0 0 = l.getD k 0 := by simp [List.getD_eq_getElem?_getD]
  have hd : dec (l.drop k) = (c, 1) := by
    unfold dec
    rw [if_neg (by rw [List.length_drop]; omega), e, h.2, if_pos hc]
  unfold lt ln
  rw [hd]
  exact ⟨rfl, rfl⟩
theorem ce_dash {l : Bs} {k k' : Nat} (h : ceS l k = .ok true k') (hs : skB l 45 k = true) : k + 1 < l.length := by
  obtain ⟨a, b⟩ := sk_let (by decide) hs
  unfold ceS pkS at h
  rw [let_ok (by omega), R.bind_ok, R.bind_ok, a, if_neg (by show ¬ (45 : Int) = 93; decide), if_pos rfl] at h
  cases hr : letS l (k + 1) with
  | bad p e => rw [hr] at h; cases h
  | ok s k2 =>
    by_cases hn : ln l (k + 1) = 0
    · rw [let_bad hn] at hr; cases hr
    · exact ln_end hn
/-- A class, from its bracket on. -/
def clsS (l : Bs) : Nat → Nat → Nat → R (List Rg)
  | 0, _, _ => out
  | f + 1, o, k => (entS o k).bind fun _ k1 => (mlS l (l.length + 1) true [] (if skB l 94 k1 = true then k1 + 1 else k1)).bind fun acc k3 =>
    if skB l 45 k3 = true then (clsS l f (o + 1) (k3 + 1)).bind fun t k4 => (sgnS l 93 k4).bind fun _ k5 => .ok (mnF (if skB l 94 k1 = true then notR 0 (ofR acc) else ofR acc) t) k5
    else (sgnS l 93 k3).bind fun _ k5 => .ok (if skB l 94 k1 = true then notR 0 (ofR acc) else ofR acc) k5
theorem cl_s (b : Bool) (acc : List Rg) : Cn (if b = true then notR 0 (ofR acc) else ofR acc) ∧ (if b = true then notR 0 (ofR acc) else ofR acc).length ≤ acc.length + 1 := by
  have h1 := (ofR_ok acc).cn
  have h2 := ofR_le acc
  have h3 := notR_le (ofR acc) 0
  cases b
  · rw [if_neg (by decide)]; exact ⟨h1, by omega⟩
  · rw [if_pos rfl]; exact ⟨(notR_S h1).cn, by omega⟩
theorem cls_ok {l : Bs} (hb : ∀ i, 0 ≤ l.getD i 0 ∧ l.getD i 0 < 256) : ∀ (f o k : Nat) (s : List Rg) (k5 : Nat), clsS l f o k = .ok s k5 → Cn s ∧ s.length ≤ 7 * (k5 - k) ∧ k + 2 ≤ k5
  | 0, o, k, s, k5, h => by cases h
  | f + 1, o, k, s, k5, h => by
    have h' : ((entS o k).bind fun _ k1 => (mlS l (l.length + 1) true [] (if skB l 94 k1 = true then k1 + 1 else k1)).bind fun acc k3 =>
      if skB l 45 k3 = true then (clsS l f (o + 1) (k3 + 1)).bind fun t k4 => (sgnS l 93 k4).bind fun _ k5 => .ok (mnF (if skB l 94 k1 = true then notR 0 (ofR acc) else ofR acc) t) k5
      else (sgnS l 93 k3).bind fun _ k5 => .ok (if skB l 94 k1 = true then notR 0 (ofR acc) else ofR acc) k5) = .ok s k5 := h
    unfold entS at h'
    by_cases ho : o = 40
    · rw [if_pos ho] at h'; cases h'
    rw [if_neg ho, R.bind_ok] at h'
    obtain ⟨k2, hk2⟩ : ∃ k2, (if skB l 94 (k + 1) = true then k + 1 + 1 else k + 1) = k2 := ⟨_, rfl⟩
    have hk2' : k + 1 ≤ k2 := by rw [← hk2]; split <;> omega
    rw [hk2] at h'
    cases hm : mlS l (l.length + 1) true [] k2 with
    | bad p e => rw [hm] at h'; cases h'
    | ok acc k3 =>
      obtain ⟨a, b, c⟩ := ml_ok hb _ _ _ _ _ _ hm
      rw [List.length_nil] at a
      obtain ⟨d, e⟩ := cl_s (skB l 94 (k + 1)) acc
      rw [hm, R.bind_ok] at h'
      generalize (if skB l 94 (k + 1) = true then notR 0 (ofR acc) else ofR acc) = S at *
      by_cases h45 : skB l 45 k3 = true
      · rw [if_pos h45] at h'
        cases hc : clsS l f (o + 1) (k3 + 1) with
        | bad p e => rw [hc] at h'; cases h'
        | ok t k4 =>
          obtain ⟨x, y, z⟩ := cls_ok hb f _ _ _ _ hc
          rw [hc, R.bind_ok] at h'
          cases hs : sgnS l 93 k4 with
          | bad p e => rw [hs] at h'; cases h'
          | ok u k6 =>
            have := (sgn_k hs).1
            rw [hs, R.bind_ok] at h'
            injection h' with h1 h2
            subst h1
            subst h2
            have := mn_len S t
            exact ⟨mn_cn, by omega, by omega⟩
      · rw [if_neg h45] at h'
        cases hs : sgnS l 93 k3 with
        | bad p e => rw [hs] at h'; cases h'
        | ok u k6 =>
          have := (sgn_k hs).1
          rw [hs, R.bind_ok] at h'
          injection h' with h1 h2
          subst h1
          subst h2
          exact ⟨d, by omega, by omega⟩
end Go.Proofs.Ythlkbijpphdblaa
