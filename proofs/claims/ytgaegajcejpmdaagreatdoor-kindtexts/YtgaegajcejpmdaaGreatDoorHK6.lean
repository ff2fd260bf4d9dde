/- A whole number's text as the library's ParseInt and ParseUint read it; the bounds of the kinds: plain. -/
import Derived.Test.YtgaegajcejpmdaaGreatDoorHDcG0
import Derived.Test.YtgaegajcejpmdaaGreatDoorHJ9
import Derived.Lib.ParseIntB
namespace Go.Proofs.YtgaegajcejpmdaaGreatDoor
set_option linter.unusedVariables false

def wiB (k v : Int) : Bool :=
  if k = 11 then true else if k = 12 then decide (v ≤ 0) else if k = 13 then decide (v < 0) else if k = 14 then decide (0 ≤ v) else if k = 15 then decide (0 < v)
  else if k = 16 then decide (-9223372036854775808 ≤ v ∧ v ≤ 9223372036854775807) else if k = 17 then decide (-2147483648 ≤ v ∧ v ≤ 2147483647)
  else if k = 18 then decide (-32768 ≤ v ∧ v ≤ 32767) else if k = 19 then decide (-128 ≤ v ∧ v ≤ 127)
  else if k = 20 then decide (0 ≤ v ∧ v ≤ 18446744073709551615) else if k = 21 then decide (0 ≤ v ∧ v ≤ 4294967295)
  else if k = 22 then decide (0 ≤ v ∧ v ≤ 65535) else if k = 23 then decide (0 ≤ v ∧ v ≤ 255) else true
def cntB (k : Int) (l : List Int) (n : Dc.Nm) : Bool := if k = 10 then true else if Dc.ix l = -1 then wiB k (Dc.nv n 0) else false

theorem ix_cons {c : Int} {l : List Int} (h : Dc.ix (c :: l) = -1) : c ≠ 46 ∧ Dc.ix l = -1 := by
  rw [Dc.ix] at h
  by_cases h1 : c = 46
  · rw [if_pos h1] at h; omega
  · rw [if_neg h1] at h
    by_cases h2 : Dc.ix l = -1
    · exact ⟨h1, h2⟩
    · rw [if_neg h2] at h
      have := Dc.ix_bd l
      omega
theorem sc_nopoint : ∀ (l b : List Int) (s : Nat) (r : List Int × Nat), Dc.ix l = -1 → Dc.scS l b s false = some r → r.2 = s
  | [], b, s, r, h, hr => by
    simp only [Dc.scS, Option.some.injEq] at hr
    rw [← hr]
  | c :: l, b, s, r, h, hr => by
    obtain ⟨h1, h2⟩ := ix_cons h
    rw [Dc.scS] at hr
    by_cases hc : 48 ≤ c ∧ c ≤ 57
    · rw [if_pos hc] at hr
      exact sc_nopoint l _ s r h2 (by simpa using hr)
    · rw [if_neg hc, if_neg (fun q => h1 q.1)] at hr
      cases hr
theorem sg_ix {l : List Int} (h : Dc.ix l = -1) : Dc.ix (Dc.sgS l).2 = -1 := by
  cases l with
  | nil => exact h
  | cons c l =>
    obtain ⟨h1, h2⟩ := ix_cons h
    rw [Dc.sgS]
    by_cases e1 : c = 43
    · rw [if_pos e1]; exact h2
    · rw [if_neg e1]
      by_cases e2 : c = 45
      · rw [if_pos e2]; exact h2
      · rw [if_neg e2]; exact h
theorem par_whole {l : List Int} {n : Dc.Nm} (h : Dc.parS l = .ok n) (hi : Dc.ix l = -1) : n.2.2 = 0 := by
  unfold Dc.parS at h
  by_cases hl : 4096 < l.length
  · rw [if_pos hl] at h; cases h
  · rw [if_neg hl] at h
    cases hs : Dc.scS (Dc.sgS l).2 [] 0 false with
    | none => rw [hs] at h; cases h
    | some r =>
      rw [hs] at h
      have h0 := sc_nopoint _ _ _ _ (sg_ix hi) hs
      obtain ⟨b, s⟩ := r
      dsimp only at h h0
      subst h0
      by_cases hb : b = []
      · rw [if_pos hb] at h; cases h
      · rw [if_neg hb] at h
        have e := (Except.ok.inj h).symm
        rw [e]
        rfl
def dvn (acc : Int) (ds : List Int) : Int := ds.foldl (fun a d => a * 10 + d) acc
theorem dvn_ge : ∀ (ds : List Int) (acc : Int), Dc.Dg ds → 0 ≤ acc → acc ≤ dvn acc ds
  | [], acc, h, h0 => by simp [dvn]
  | d :: ds, acc, h, h0 => by
    obtain ⟨hd, hl⟩ := h.cons
    have := dvn_ge ds (acc * 10 + d) hl (by omega)
    show acc ≤ dvn (acc * 10 + d) ds
    omega
def dby (ds : List Int) : List UInt8 := ds.map fun d => UInt8.ofNat (d + 48).toNat
theorem dby_at {d : Int} (h0 : 0 ≤ d) (h1 : d ≤ 9) : (UInt8.ofNat (d + 48).toNat).toNat = d.toNat + 48 := by
  rw [UInt8.toNat_ofNat']
  omega
theorem pum : ∀ (ds : List Int) (M acc : Nat), Dc.Dg ds → M ≤ 18446744073709551615 → acc ≤ M → Lib.parseUintM M acc (dby ds) = if dvn (acc : Int) ds ≤ (M : Int) then .ok (dvn (acc : Int) ds).toNat else .range
  | [], M, acc, h, hM, ha => by
    have : dvn (acc : Int) [] = acc := rfl
    rw [this, if_pos (by omega)]
    simp [dby, Lib.parseUintM]
  | d :: ds, M, acc, h, hM, ha => by
    obtain ⟨hd, hl⟩ := h.cons
    have e0 : dby (d :: ds) = UInt8.ofNat (d + 48).toNat :: dby ds := rfl
    have e1 : dvn (acc : Int) (d :: ds) = dvn ((acc : Int) * 10 + d) ds := rfl
    have e2 := dby_at hd.1 hd.2
    have e3 := dvn_ge ds ((acc : Int) * 10 + d) hl (by omega)
    rw [e0, Lib.parseUintM, e2, if_pos (by omega), e1]
    by_cases c1 : 1844674407370955162 ≤ acc
    · rw [if_pos c1, if_neg (by omega)]
    · rw [if_neg c1]
      by_cases c2 : M < acc * 10 + (d.toNat + 48 - 48)
      · rw [if_pos c2, if_neg (by omega)]
      · rw [if_neg c2, pum ds M _ hl hM (by omega)]
        have e4 : ((acc * 10 + (d.toNat + 48 - 48) : Nat) : Int) = (acc : Int) * 10 + d := by omega
        rw [e4]
theorem tx_whole {n : Dc.Nm} (h0 : n.2.2 = 0) : Dc.txS n = (if n.1 = true then [45] else []) ++ n.2.1.map (· + 48) := by
  unfold Dc.txS
  rw [h0]
  simp
theorem sb_data (l : List Int) : (Dc.sb l).data.toList = l.map fun d => UInt8.ofNat d.toNat := by simp [Dc.sb]
theorem dby_map (ds : List Int) : (ds.map (· + 48)).map (fun d => UInt8.ofNat d.toNat) = dby ds := by
  unfold dby
  rw [List.map_map]
  rfl
theorem nv_whole {n : Dc.Nm} (h0 : n.2.2 = 0) : Dc.nv n 0 = if n.1 = true then -(Dc.dval n.2.1) else Dc.dval n.2.1 := by
  unfold Dc.nv
  rw [h0]
  simp [Dc.p10]
theorem dv_dvn (ds : List Int) : dvn ((0 : Nat) : Int) ds = Dc.dval ds := rfl
theorem dval_ge {ds : List Int} (h : Dc.Dg ds) : 0 ≤ Dc.dval ds := dvn_ge ds 0 h (by omega)
/-- ParseUint's reading of a row of digits. -/
theorem pub {ds : List Int} (h : Dc.Dg ds) (hn : ds ≠ []) (B : Nat) (hB : 2 ^ B - 1 ≤ 18446744073709551615) : Lib.parseUintB B (dby ds) = if Dc.dval ds ≤ ((2 ^ B - 1 : Nat) : Int) then .ok (Dc.dval ds).toNat else .range := by
  unfold Lib.parseUintB
  rw [if_neg (fun q => hn (by cases ds with | nil => rfl | cons d ds => cases q)), pum ds _ 0 h hB (Nat.zero_le _), dv_dvn]
theorem pu_tx {n : Dc.Nm} (h : Dc.CN n) (h0 : n.2.2 = 0) (B : Nat) (hB : 2 ^ B - 1 ≤ 18446744073709551615) :
    Lib.parseUintB B (Dc.sb (Dc.txS n)).data.toList = if Dc.nv n 0 < 0 then .syntax else if Dc.nv n 0 ≤ ((2 ^ B - 1 : Nat) : Int) then .ok (Dc.nv n 0).toNat else .range := by
  have hne : n.2.1 ≠ [] := fun q => by have := h.1.len; rw [q] at this; simp at this
  have hg := dval_ge h.1.dg
  rw [sb_data, tx_whole h0, nv_whole h0]
  cases hb : n.1 with
  | true =>
    have := h.2 hb
    rw [if_pos rfl, if_pos rfl, if_pos (by omega)]
    unfold Lib.parseUintB
    simp [Lib.parseUintM]
  | false =>
    simp only [Bool.false_eq_true, if_false, List.nil_append]
    rw [dby_map, pub h.1.dg hne B hB, if_neg (by omega : ¬ Dc.dval n.2.1 < 0)]
theorem pi_tx {n : Dc.Nm} (h : Dc.CN n) (h0 : n.2.2 = 0) (B : Nat) (hB : 2 ^ B - 1 ≤ 18446744073709551615) (H : Nat) (hH : 2 ^ (B - 1) = H) (hH2 : 2 ^ B = 2 * H) (hH1 : 1 ≤ H) :
    (-(H : Int) ≤ Dc.nv n 0 ∧ Dc.nv n 0 ≤ (H : Int) - 1 → Lib.parseIntB B (Dc.sb (Dc.txS n)).data.toList = .ok (Dc.nv n 0)) ∧
    (¬ (-(H : Int) ≤ Dc.nv n 0 ∧ Dc.nv n 0 ≤ (H : Int) - 1) → Lib.parseIntB B (Dc.sb (Dc.txS n)).data.toList = .range) := by
  have hne : n.2.1 ≠ [] := fun q => by have := h.1.len; rw [q] at this; simp at this
  have hg := dval_ge h.1.dg
  have hp := pub h.1.dg hne B hB
  rw [sb_data, tx_whole h0, nv_whole h0]
  have e1 : ((2 ^ B - 1 : Nat) : Int) = 2 * (H : Int) - 1 := by rw [hH2]; omega
  rw [e1] at hp
  cases hb : n.1 with
  | true =>
    have hz := h.2 hb
    rw [if_pos rfl, if_pos rfl]
    have e2 : ([45] ++ n.2.1.map (· + 48)).map (fun d : Int => UInt8.ofNat d.toNat) = (45 : UInt8) :: dby n.2.1 := by
      rw [List.map_append, dby_map]; rfl
    rw [e2, Lib.parseIntB]
    have e3 : ((45 : UInt8).toNat = 43 ∨ (45 : UInt8).toNat = 45) := .inr rfl
    rw [if_pos e3, hp, hH]
    by_cases c : Dc.dval n.2.1 ≤ 2 * (H : Int) - 1
    · rw [if_pos c]
      have e4 : ((Dc.dval n.2.1).toNat : Int) = Dc.dval n.2.1 := by omega
      have e5 : (45 : UInt8).toNat = 45 := rfl
      dsimp only
      simp only [e5, not_true, false_and, if_false, true_and, if_true]
      constructor
      · intro q
        rw [if_neg (by omega), e4]
      · intro q
        rw [if_pos (by omega)]
    · rw [if_neg c]
      exact ⟨fun q => by omega, fun q => rfl⟩
  | false =>
    rw [if_neg (by simp), if_neg (by simp), List.nil_append, dby_map]
    obtain ⟨d, ds, hd⟩ : ∃ d ds, n.2.1 = d :: ds := by
      cases hq : n.2.1 with
      | nil => exact absurd hq hne
      | cons d ds => exact ⟨d, ds, rfl⟩
    have hdg := h.1.dg d (by rw [hd]; simp)
    have e0 : dby n.2.1 = UInt8.ofNat (d + 48).toNat :: dby ds := by rw [hd]; rfl
    have e2 := dby_at hdg.1 hdg.2
    have e6 : Lib.parseIntB B (dby n.2.1) = match Lib.parseUintB B (dby n.2.1) with
      | .syntax => .syntax
      | .range => .range
      | .ok u => if 2 ^ (B - 1) ≤ u then .range else .ok (u : Int) := by
      rw [e0, Lib.parseIntB, e2, if_neg (by omega)]
      have f1 : ¬ (d.toNat + 48 = 45) := by omega
      cases Lib.parseUintB B (UInt8.ofNat (d + 48).toNat :: dby ds) <;> simp [f1]
    rw [e6, hp, hH]
    by_cases c : Dc.dval n.2.1 ≤ 2 * (H : Int) - 1
    · rw [if_pos c]
      have e4 : ((Dc.dval n.2.1).toNat : Int) = Dc.dval n.2.1 := by omega
      dsimp only
      constructor
      · intro q
        rw [if_neg (by omega), e4]
      · intro q
        rw [if_pos (by omega)]
    · rw [if_neg c]
      exact ⟨fun q => by omega, fun q => rfl⟩
end Go.Proofs.YtgaegajcejpmdaaGreatDoor
