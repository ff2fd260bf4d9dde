/- The program's closures: fractionInto. -/
import Derived.Test.YtijcbgjlofcdfaaRd3
namespace Go.Proofs.Ytijcbgjlofcdfaa
open Go.RowKit
set_option linter.unusedVariables false

/-- fractionInto: what is left, whether it will do, the nanoseconds (none: they are left as they are). -/
def frG (l : List Int) : Option (Option Int × List Int) :=
  if l.head? = some 46 then (if dk 9 l.tail = 0 then none else some (some (dvl (l.tail.take (dk 9 l.tail)) * 10 ^ (9 - dk 9 l.tail)), l.tail.drop (dk 9 l.tail))) else some (none, l)
def FrP (s : ByteArray) (B off : Nat) (W : World) (cs : Array Value) (t : TypeId) (v : Value) (e : Ending) (W' : World) : Prop :=
  ∃ (t' : ByteArray) (u : Value), e = .returned (.tuple #[.string t', .bool (frG (bl s)).isSome]) ∧ t'.size ≤ s.size ∧ W'.heap[B]? = some (.cells (cs.setIfInBounds off u) t (0, 0)) ∧ Fro (fun k => k = B) W W' ∧ (∃ x, u = .int .i64 x ∧ 0 ≤ x ∧ x < 1000000000 ∨ u = v) ∧ (∀ x, frG (bl s) = some x → bl t' = x.2 ∧ u = (match x.1 with | some n => .int .i64 n | none => v))
set_option maxHeartbeats 1000000 in
theorem frac_c (s : ByteArray) (b1 B off : Nat) (W : World) (cs : Array Value) (t : TypeId) (v : Value) (h1 : W.heap[b1]? = some (.cells #[.pointer (some ⟨B, off, none⟩)] 86 (0, 0)))
    (hB : W.heap[B]? = some (.cells cs t (0, 0))) (hv : cs[off]? = some v) (n1 : B ≠ b1) (hs : s.size ≤ maxLen) :
    Calls Try.prog 80 #[.string s, .pointer (some ⟨b1, 0, none⟩)] W (FrP s B off W cs t v) := by
  have hm1 := cp_p s 46 W hs
  have e45 : ((46 : UInt8).toNat : Int) = 46 := rfl
  rw [e45] at hm1
  by_cases hp : (bl s).head? = some 46
  · rw [if_pos hp, decide_eq_true hp] at hm1
    obtain ⟨r, hr⟩ : ∃ r, s.extract 1 s.size = r := ⟨_, rfl⟩
    have hbr : bl r = (bl s).tail := by rw [← hr, bl_ext, List.drop_one]
    have hrs : r.size ≤ s.size := by rw [← hr, ByteArray.size_extract]; omega
    rw [hr] at hm1
    clear hr
    have hm2 := digits_p r 9 W (by omega) (by omega)
    have hfr : frG (bl s) = if dk 9 (bl r) = 0 then none else some (some (dvl ((bl r).take (dk 9 (bl r))) * 10 ^ (9 - dk 9 (bl r))), (bl r).drop (dk 9 (bl r))) := by unfold frG; rw [if_pos hp, hbr]
    clear hp hbr e45
    have hk := dk_le 9 (bl r)
    rw [bl_len] at hk
    have hvb := dvl_in _ (dgs_take (l := bl r) (n := dk 9 (bl r)) hk.2.2).1
    rw [(dgs_take (l := bl r) (n := dk 9 (bl r)) hk.2.2).2] at hvb
    have hb := bl_suf r (dk 9 (bl r))
    have hz : (r.extract (dk 9 (bl r)) r.size).size ≤ s.size := by rw [ByteArray.size_extract]; omega
    generalize dvl ((bl r).take (dk 9 (bl r))) = V at *
    generalize hK : dk 9 (bl r) = K at *
    clear hK
    generalize (bl r).drop K = D at *
    obtain ⟨hk0, hk1, _⟩ := hk
    have hpw : ∀ j : Nat, j ≤ 9 - K → 0 ≤ V * 10 ^ j ∧ V * 10 ^ j < 1000000000 := by
      intro j hj
      have p1 : (0 : Int) < 10 ^ j := Int.pow_pos (by omega)
      refine ⟨Int.mul_nonneg hvb.1 (by omega), ?_⟩
      have p2 : V * 10 ^ j < 10 ^ K * 10 ^ j := Int.mul_lt_mul_of_pos_right hvb.2 p1
      rw [← Int.pow_add] at p2
      have p3 : (10 : Int) ^ (K + j) ≤ 10 ^ 9 := by
        have : (10 : Nat) ^ (K + j) ≤ 10 ^ 9 := Nat.pow_le_pow_right (by omega) (by omega)
        exact_mod_cast this
      omega
    have hps : ∀ j : Nat, V * 10 ^ (j + 1) = V * 10 ^ j * 10 := fun j => by rw [Int.pow_succ, Int.mul_assoc]
    have c1 := cl1 h1
    obtain ⟨cB, fB⟩ := cl_at hB hv
    have hfin : ∀ x : Int, (W.setCell ⟨B, off, none⟩ (.int .i64 x)).heap[B]? = some (.cells (cs.setIfInBounds off (.int .i64 x)) t (0, 0)) ∧ Fro (fun k => k = B) W (W.setCell ⟨B, off, none⟩ (.int .i64 x)) := fun x => ⟨bset hB _, fro_set W B off _⟩
    have HM : Hid _ := And.intro hm1 hm2
    have HF : Hid _ := And.intro hfin (And.intro hpw (And.intro hps (And.intro hfr (And.intro hb hz))))
    clear hm1 hm2 hfin hpw hps hfr hb hz h1 hB hv hvb
    unfold maxLen at hs
    have hkI : (K : Int) ≤ (r.size : Int) := by omega
    have hk9 : (K : Int) ≤ 9 := by omega
    go_enter Try.func80, Try.ntmps80
    go_wp2_with (first | (go_at_call 67; refine Calls.mono HM.out.1 ?_; rintro e w' ⟨rfl, hw⟩; have hw2 := hw.symm; clear hw; subst hw2) | (go_at_call 76; refine Calls.mono HM.out.2 ?_; rintro e w' ⟨rfl, hw⟩; have hw2 := hw.symm; clear hw; subst hw2))
    go_loopg [6, 23] (9 - K) (fun g v6 v23 wr => ∃ j : Nat, j + g = 9 - K ∧ v23 = .int .i64 (j : Int) ∧ v6 = .int .i64 (V * 10 ^ j) ∧ wr = W)
    case atStart => exact ⟨0, by omega, rfl, by simp, rfl⟩
    case round =>
      obtain ⟨j, hjg, rfl, rfl, hwr⟩ := hrel
      have hw3 := hwr.symm
      clear hwr
      subst hw3
      obtain ⟨hp0, hp1⟩ := HF.out.2.1 j (by omega)
      have hnx := HF.out.2.2.1 j
      have HNX : Hid _ := hnx
      clear hnx
      by_cases hlt : (j : Int) < 9 - (K : Int)
      · obtain ⟨g, rfl⟩ : ∃ g, gk = g + 1 := ⟨gk - 1, by omega⟩
        obtain ⟨hq0, hq1⟩ := HF.out.2.1 (j + 1) (by omega)
        rw [HNX.out] at hq0 hq1
        generalize V * 10 ^ j = X at *
        go_wp2_with fail
        go_roundg g
        case measure => omega
        case rel => exact ⟨j + 1, by omega, by simp, by rw [HNX.out], rfl⟩
      · have hjK : j = 9 - K := by omega
        subst hjK
        generalize hX : V * 10 ^ (9 - K) = X at *
        go_wp2_with fail
        go_ret2
        have hfr := HF.out.2.2.2.1
        refine ⟨r.extract K r.size, .int .i64 X, ?_, HF.out.2.2.2.2.2, (HF.out.1 X).1, (HF.out.1 X).2, ⟨X, .inl ⟨rfl, hp0, hp1⟩⟩, ?_⟩
        · rw [hfr]
          by_cases h0 : K = 0
          · subst h0; rfl
          · rw [if_neg h0]
            have : decide (0 < K) = true := by simp; omega
            simp [this]
        · intro x hx
          rw [hfr] at hx
          split at hx
          · cases hx
          · cases hx
            exact ⟨HF.out.2.2.2.2.1, rfl⟩
  · rw [if_neg hp, decide_eq_false hp] at hm1
    have hfr : frG (bl s) = some (none, bl s) := by unfold frG; rw [if_neg hp]
    have HFR : Hid _ := hfr
    have HM : Hid _ := And.intro hm1 trivial
    have HF : Hid (W.heap[B]? = some (.cells (cs.setIfInBounds off v) t (0, 0))) := (by
      rw [hB]
      have e : cs.setIfInBounds off v = cs := by
        obtain ⟨hlt, hh⟩ := Array.getElem?_eq_some_iff.1 hv
        apply Array.ext
        · simp
        · intro i h1 h2
          rw [Array.getElem_setIfInBounds]
          split
          · rename_i q; subst q; exact hh.symm
          · rfl
      rw [e] : W.heap[B]? = some (.cells (cs.setIfInBounds off v) t (0, 0)))
    clear hm1 hp hB hv h1 hfr
    go_enter Try.func80, Try.ntmps80
    go_wp2_with (first | (go_at_call 67; refine Calls.mono HM.out.1 ?_; rintro e w' ⟨rfl, rfl⟩))
    go_ret2
    refine ⟨s, v, ?_, Nat.le_refl _, HF.out, Fro.refl _ _, ⟨0, .inr rfl⟩, fun x hx => by rw [HFR.out] at hx; cases hx; exact ⟨rfl, rfl⟩⟩
    rw [HFR.out]; rfl
end Go.Proofs.Ytijcbgjlofcdfaa
