/- The trees that a pattern may have: their sets are sets of letters, and small. -/
import Derived.Test.YthlkbijpphdblaaJ3
namespace Go.Proofs.Ythlkbijpphdblaa
set_option linter.unusedVariables false

inductive GdN : Nd → Prop
  | mk (k : Int) (s : List Rg) (a b : Int) (ks : List Nd) (h1 : Cn s) (h2 : s.length ≤ 100000) (h3 : ks.length ≤ 100000) (hk : ∀ x ∈ ks, GdN x) : GdN (.nd k s a b ks)
theorem gd_nil : Cn ([] : List Rg) := Cn.nil
theorem let_rg {l : Bs} (hb : ∀ i, 0 ≤ l.getD i 0 ∧ l.getD i 0 < 256) {k k' : Nat} {v : Int × Nat} (h : letS l k = .ok v k') : 0 ≤ v.1 ∧ v.1 ≤ 1114111 := by
  unfold letS at h
  split at h
  · cases h
  · rename_i hn
    injection h with h1 h2
    subst h1
    exact lt_rg hb hn
theorem ctg_le {l : Bs} {bg : Int} {k k1 : Nat} {s : List Rg} (h : ctgS l bg k = .ok s k1) : k1 ≤ l.length := by
  unfold ctgS at h
  cases h1 : sgnS l 123 k with
  | bad p e => rw [h1] at h; cases h
  | ok u k2 =>
    rw [h1, R.bind_ok] at h
    cases h2 : nmS l (l.length + 1) k2 with
    | bad p e => rw [h2] at h; cases h
    | ok u k3 =>
      have := nm_lt _ _ _ _ h2
      rw [h2, R.bind_ok] at h
      split at h
      · injection h with _ h4; omega
      · cases h
/-- What a reader tells, if it tells. -/
def Hp {α : Type} (P : α → Nat → Prop) (x : R α) : Prop := match x with
  | .ok v k => P v k
  | .bad _ _ => True
theorem Hp.ok {α : Type} {P : α → Nat → Prop} {v : α} {k : Nat} (h : P v k) : Hp P (.ok v k) := h
theorem Hp.bad {α : Type} {P : α → Nat → Prop} {i e : Int} : Hp P (.bad i e) := trivial
theorem Hp.ite {α : Type} {P : α → Nat → Prop} {c : Prop} [Decidable c] {x y : R α} (h : c → Hp P x) (h' : ¬ c → Hp P y) : Hp P (if c then x else y) := by
  by_cases hc : c
  · rw [if_pos hc]; exact h hc
  · rw [if_neg hc]; exact h' hc
theorem Hp.of {α : Type} {P : α → Nat → Prop} {x : R α} (h : ∀ v k, x = .ok v k → P v k) : Hp P x := by
  cases x with
  | ok v k => exact h v k rfl
  | bad i e => trivial
theorem Hp.to {α : Type} {P : α → Nat → Prop} {x : R α} {v : α} {k : Nat} (h : Hp P x) (hx : x = .ok v k) : P v k := by
  subst hx
  exact h
theorem Hp.bind {α β : Type} {P : β → Nat → Prop} {x : R α} {f : α → Nat → R β} (h : ∀ v k, x = .ok v k → Hp P (f v k)) : Hp P (x.bind f) := by
  cases x with
  | ok v k => exact h v k rfl
  | bad i e => trivial
theorem ep_hp (l : Bs) (k : Nat) : Hp (fun _ k1 => k1 ≤ l.length) (epS l k) := by
  unfold epS
  refine Hp.bind fun v k2 hr => ?_
  have hv := (let_okj hr).2
  repeat' (first | with_reducible exact Hp.bad | (with_reducible refine Hp.ite (fun _ => ?_) fun _ => ?_) | (with_reducible refine Hp.ok ?_; omega))
  · exact Hp.of fun s k1 h => ctg_le h
  · exact Hp.bind fun s k1 h => Hp.ok (ctg_le h)
theorem ep_le {l : Bs} {k k1 : Nat} {s : List Rg} (h : epS l k = .ok s k1) : k1 ≤ l.length := (ep_hp l k).to h
theorem sgn_le {l : Bs} {c : Int} {k k1 : Nat} {u : Unit} (h : sgnS l c k = .ok u k1) : k1 ≤ l.length := by
  unfold sgnS at h
  cases hr : pkS l k with
  | bad p e => rw [hr] at h; cases h
  | ok v k2 =>
    have hv := (pk_ok hr).2
    rw [hr, R.bind_ok] at h
    split at h
    · injection h with _ h2; omega
    · cases h
theorem cls_le {l : Bs} : ∀ (f o k k1 : Nat) (s : List Rg), clsS l f o k = .ok s k1 → k1 ≤ l.length
  | 0, o, k, k1, s, h => by cases h
  | f + 1, o, k, k1, s, h => by
    simp only [clsS] at h
    cases he : entS o k with
    | bad p e => rw [he] at h; cases h
    | ok u k2 =>
      rw [he, R.bind_ok] at h
      cases hm : mlS l (l.length + 1) true [] (if skB l 94 k2 = true then k2 + 1 else k2) with
      | bad p e => rw [hm] at h; cases h
      | ok acc k3 =>
        rw [hm, R.bind_ok] at h
        split at h
        · cases hc : clsS l f (o + 1) (k3 + 1) with
          | bad p e => rw [hc] at h; cases h
          | ok t k4 =>
            rw [hc, R.bind_ok] at h
            cases hs : sgnS l 93 k4 with
            | bad p e => rw [hs] at h; cases h
            | ok u k5 =>
              have := sgn_le hs
              rw [hs, R.bind_ok] at h
              injection h with _ h2
              omega
        · cases hs : sgnS l 93 k3 with
          | bad p e => rw [hs] at h; cases h
          | ok u k5 =>
            have := sgn_le hs
            rw [hs, R.bind_ok] at h
            injection h with _ h2
            omega
theorem gd_row {acc : List Nd} (h : ∀ x ∈ acc, GdN x) (hl : acc.length ≤ 100000) : GdN (mkRow acc) := by
  match acc, h, hl with
  | [], _, _ => exact .mk _ _ _ _ _ gd_nil (by simp) (by simp) (by simp)
  | [x], h, _ => exact h x (by simp)
  | x :: y :: l, h, hl => exact .mk _ _ _ _ _ gd_nil (by simp) hl h
theorem gd_alt {acc : List Nd} (h : ∀ x ∈ acc, GdN x) (hl : acc.length ≤ 100000) : GdN (mkAlt acc) := by
  match acc, h, hl with
  | [], _, _ => exact .mk _ _ _ _ _ gd_nil (by simp) (by simp) (by simp)
  | [x], h, _ => exact h x (by simp)
  | x :: y :: l, h, hl => exact .mk _ _ _ _ _ gd_nil (by simp) hl h
theorem gd_pie {f : Nat → R Nd} {l : Bs} {k k1 : Nat} {x : Nd} (H : ∀ k x k', f k = .ok x k' → GdN x) (h : pieS f l k = .ok x k1) : GdN x := by
  unfold pieS at h
  cases ha : f k with
  | bad p e => rw [ha] at h; cases h
  | ok y k2 =>
    rw [ha, R.bind_ok] at h
    cases ht : timS l k2 with
    | bad p e => rw [ht] at h; cases h
    | ok u k3 =>
      rw [ht, R.bind_ok] at h
      injection h with h1 h2
      subst h1
      have := H _ _ _ ha
      split
      · exact .mk _ _ _ _ _ gd_nil (by simp) (by simp) (by simpa using this)
      · exact this
theorem gd_pcs {g : Nat → R Nd} {l : Bs} (H : ∀ k x k', g k = .ok x k' → GdN x) (hll : l.length ≤ 4096) : ∀ (f : Nat) (acc : List Nd) (k : Nat) (x : Nd) (k1 : Nat), pcsS g l f acc k = .ok x k1 → (∀ x ∈ acc, GdN x) → acc.length + f ≤ 5000 → GdN x
  | 0, acc, k, x, k1, h, _, _ => by cases h
  | f + 1, acc, k, x, k1, h, ha, hl => by
    simp only [pcsS] at h
    cases hg : goS l k with
    | bad p e => rw [hg] at h; cases h
    | ok b k2 =>
      rw [hg, R.bind_ok] at h
      split at h
      · cases hp : pieS g l k with
        | bad p e => rw [hp] at h; cases h
        | ok y k3 =>
          rw [hp, R.bind_ok] at h
          refine gd_pcs H hll f _ _ _ _ h ?_ (by simp; omega)
          intro z hz
          rw [List.mem_append] at hz
          rcases hz with hz | hz
          · exact ha z hz
          · simp at hz
            subst hz
            exact gd_pie H hp
      · injection h with h1 _
        subst h1
        exact gd_row ha (by omega)
theorem gd_als {g : Nat → R Nd} {l : Bs} (H : ∀ k x k', g k = .ok x k' → GdN x) (hll : l.length ≤ 4096) : ∀ (f : Nat) (acc : List Nd) (k : Nat) (x : Nd) (k1 : Nat), alsS g l f acc k = .ok x k1 → (∀ x ∈ acc, GdN x) → acc.length + f ≤ 5000 → GdN x
  | 0, acc, k, x, k1, h, _, _ => by cases h
  | f + 1, acc, k, x, k1, h, ha, hl => by
    simp only [alsS] at h
    split at h
    · cases hp : rowS g l (k + 1) with
      | bad p e => rw [hp] at h; cases h
      | ok y k3 =>
        rw [hp, R.bind_ok] at h
        refine gd_als H hll f _ _ _ _ h ?_ (by simp; omega)
        intro z hz
        rw [List.mem_append] at hz
        rcases hz with hz | hz
        · exact ha z hz
        · simp at hz
          subst hz
          exact gd_pcs H hll _ _ _ _ _ hp (by simp) (by simp; omega)
    · injection h with h1 _
      subst h1
      exact gd_alt ha (by omega)
theorem gd_pat {g : Nat → R Nd} {l : Bs} (H : ∀ k x k', g k = .ok x k' → GdN x) (hll : l.length ≤ 4096) {k k1 : Nat} {x : Nd} (h : patS g l k = .ok x k1) : GdN x := by
  unfold patS at h
  cases hp : rowS g l k with
  | bad p e => rw [hp] at h; cases h
  | ok y k3 =>
    rw [hp, R.bind_ok] at h
    refine gd_als H hll _ _ _ _ _ h ?_ (by simp; omega)
    intro z hz
    simp at hz
    subst hz
    exact gd_pcs H hll _ _ _ _ _ hp (by simp) (by simp; omega)
theorem gd_atom {l : Bs} (hb : ∀ i, 0 ≤ l.getD i 0 ∧ l.getD i 0 < 256) (hll : l.length ≤ 4096) : ∀ (d o k : Nat), Hp (fun x _ => GdN x) (atomS l d o k)
  | 0, o, k => Hp.bad
  | d + 1, o, k => by
    have sym : ∀ s : List Rg, Cn s → s.length ≤ 100000 → GdN (symN s) := fun s h1 h2 => .mk _ _ _ _ _ h1 h2 (by simp) (by simp)
    unfold atomS
    refine Hp.bind fun v k2 hr => ?_
    obtain ⟨_, hv1, hv2, hv3⟩ := let_okj hr
    refine Hp.ite (fun _ => ?_) fun _ => Hp.ite (fun _ => ?_) fun _ => Hp.ite (fun _ => ?_) fun _ => Hp.ite (fun _ => ?_) fun _ => ?_
    · refine Hp.bind fun u k3 he => Hp.bind fun y k4 hp => Hp.bind fun u k5 hs => Hp.ok ?_
      exact gd_pat (fun k x k' h => (gd_atom hb hll d (o + 1) k).to h) hll hp
    · refine Hp.bind fun s k3 hc => Hp.ok ?_
      obtain ⟨c1, c2, c3⟩ := cls_ok hb _ _ _ _ _ hc
      have := cls_le _ _ _ _ _ hc
      exact sym s c1 (by omega)
    · refine Hp.bind fun s k3 hc => Hp.ok ?_
      have c := ep_ok hc
      have := ep_le hc
      have := c.len
      exact sym s c.cn (by omega)
    · have c := cl_s true [(10, 10), (13, 13)]
      rw [if_pos rfl] at c
      exact Hp.ok (sym _ c.1 (by have := c.2; simp only [List.length_cons, List.length_nil] at this; omega))
    · have := let_rg hb hr
      have hE : GdN (symN [(v.1, v.1)]) := sym _ (Cn.one ⟨this.1, Int.le_refl _, this.2⟩) (by simp)
      repeat' (first | with_reducible exact Hp.bad | (with_reducible refine Hp.ite (fun _ => ?_) fun _ => ?_) | (with_reducible exact Hp.ok hE))
theorem par_gd {l : Bs} (hb : ∀ i, 0 ≤ l.getD i 0 ∧ l.getD i 0 < 256) {x : Nd} {k : Nat} (h : parS l = .ok x k) : GdN x := by
  unfold parS at h
  split at h
  · cases h
  · unfold whS at h
    cases hp : patS (atomS l 41 0) l 0 with
    | bad p e => rw [hp] at h; cases h
    | ok y k3 =>
      rw [hp, R.bind_ok] at h
      split at h
      · injection h with h1 _
        subst h1
        exact gd_pat (fun k x k' h => (gd_atom hb (by omega) _ _ k).to h) (by omega) hp
      · cases h
end Go.Proofs.Ythlkbijpphdblaa
