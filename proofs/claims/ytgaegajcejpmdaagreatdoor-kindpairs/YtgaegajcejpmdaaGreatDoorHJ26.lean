/- Joined: HDtRd4, HDtRd5. -/
import Derived.Test.YtgaegajcejpmdaaGreatDoorHDtRd3
namespace Go.Proofs.YtgaegajcejpmdaaGreatDoor.Dt
open Go.RowKit
set_option linter.unusedVariables false

/-- fractionInto: what is left, whether it will do, the nanoseconds (none: they are left as they are). -/
def frG (l : List Int) : Option (Option Int × List Int) :=
  if l.head? = some 46 then (if dk 9 l.tail = 0 then none else some (some (dvl (l.tail.take (dk 9 l.tail)) * 10 ^ (9 - dk 9 l.tail)), l.tail.drop (dk 9 l.tail))) else some (none, l)
def FrP (s : ByteArray) (B off : Nat) (W : World) (cs : Array Value) (t : TypeId) (v : Value) (e : Ending) (W' : World) : Prop :=
  ∃ (t' : ByteArray) (u : Value), e = .returned (.tuple #[.string t', .bool (frG (bl s)).isSome]) ∧ t'.size ≤ s.size ∧ W'.heap[B]? = some (.cells (cs.setIfInBounds off u) t (0, 0)) ∧ Fro (fun k => k = B) W W' ∧ (∃ x, u = .int .i64 x ∧ 0 ≤ x ∧ x < 1000000000 ∨ u = v) ∧ (∀ x, frG (bl s) = some x → bl t' = x.2 ∧ u = (match x.1 with | some n => .int .i64 n | none => v))
set_option maxHeartbeats 1000000 in
theorem frac_c (s : ByteArray) (b1 B off : Nat) (W : World) (cs : Array Value) (t : TypeId) (v : Value) (h1 : W.heap[b1]? = some (.cells #[.pointer (some ⟨B, off, none⟩)] 167 (0, 0)))
    (hB : W.heap[B]? = some (.cells cs t (0, 0))) (hv : cs[off]? = some v) (n1 : B ≠ b1) (hs : s.size ≤ maxLen) :
    Calls Tryz.prog 193 #[.string s, .pointer (some ⟨b1, 0, none⟩)] W (FrP s B off W cs t v) := by
  have hm1 := cp_p s 46 W hs
  have e45 : ((46 : UInt8).toNat : Int) = 46 := rfl
  rw [e45] at hm1
  by_cases hp : (bl s).head? = some 46
  · rw [if_pos hp, decide_eq_true hp] at hm1
    obtain ⟨r, hr⟩ : ∃ r, s.extract 1 s.size = r := ⟨_, rfl⟩
    have hbr : bl r = (bl s).tail := by rw [← hr, bl_ext, List.drop_one]
    have hrs : r.size ≤ s.size := by rw [← hr, ByteArray.size_extract]; omega
    rw [hr] at hm1
    clear hr
    have hm2 := digits_p r 9 W (by omega) (by omega)
    have hfr : frG (bl s) = if dk 9 (bl r) = 0 then none else some (some (dvl ((bl r).take (dk 9 (bl r))) * 10 ^ (9 - dk 9 (bl r))), (bl r).drop (dk 9 (bl r))) := by unfold frG; rw [if_pos hp, hbr]
    clear hp hbr e45
    have hk := dk_le 9 (bl r)
    rw [bl_len] at hk
    have hvb := dvl_in _ (dgs_take (l := bl r) (n := dk 9 (bl r)) hk.2.2).1
    rw [(dgs_take (l := bl r) (n := dk 9 (bl r)) hk.2.2).2] at hvb
    have hb := bl_suf r (dk 9 (bl r))
    have hz : (r.extract (dk 9 (bl r)) r.size).size ≤ s.size := by rw [ByteArray.size_extract]; omega
    generalize dvl ((bl r).take (dk 9 (bl r))) = V at *
    generalize hK : dk 9 (bl r) = K at *
    clear hK
    generalize (bl r).drop K = D at *
    obtain ⟨hk0, hk1, _⟩ := hk
    have hpw : ∀ j : Nat, j ≤ 9 - K → 0 ≤ V * 10 ^ j ∧ V * 10 ^ j < 1000000000 := by
      intro j hj
      have p1 : (0 : Int) < 10 ^ j := Int.pow_pos (by omega)
      refine ⟨Int.mul_nonneg hvb.1 (by omega), ?_⟩
      have p2 : V * 10 ^ j < 10 ^ K * 10 ^ j := Int.mul_lt_mul_of_pos_right hvb.2 p1
      rw [← Int.pow_add] at p2
      have p3 : (10 : Int) ^ (K + j) ≤ 10 ^ 9 := by
        have : (10 : Nat) ^ (K + j) ≤ 10 ^ 9 := Nat.pow_le_pow_right (by omega) (by omega)
        exact_mod_cast this
      omega
    have hps : ∀ j : Nat, V * 10 ^ (j + 1) = V * 10 ^ j * 10 := fun j => by rw [Int.pow_succ, Int.mul_assoc]
    have c1 := cl1 h1
    obtain ⟨cB, fB⟩ := cl_at hB hv
    have hfin : ∀ x : Int, (W.setCell ⟨B, off, none⟩ (.int .i64 x)).heap[B]? = some (.cells (cs.setIfInBounds off (.int .i64 x)) t (0, 0)) ∧ Fro (fun k => k = B) W (W.setCell ⟨B, off, none⟩ (.int .i64 x)) := fun x => ⟨bset hB _, fro_set W B off _⟩
    have HM : Hid _ := And.intro hm1 hm2
    have HF : Hid _ := And.intro hfin (And.intro hpw (And.intro hps (And.intro hfr (And.intro hb hz))))
    clear hm1 hm2 hfin hpw hps hfr hb hz h1 hB hv hvb
    unfold maxLen at hs
    have hkI : (K : Int) ≤ (r.size : Int) := by omega
    have hk9 : (K : Int) ≤ 9 := by omega
    go_enter Tryz.func193, Tryz.ntmps193
    go_wp2_with (first | (go_at_call 156; refine Calls.mono HM.out.1 ?_; rintro e w' ⟨rfl, hw⟩; have hw2 := hw.symm; clear hw; subst hw2) | (go_at_call 189; refine Calls.mono HM.out.2 ?_; rintro e w' ⟨rfl, hw⟩; have hw2 := hw.symm; clear hw; subst hw2))
    go_loopg [6, 23] (9 - K) (fun g v6 v23 wr => ∃ j : Nat, j + g = 9 - K ∧ v23 = .int .i64 (j : Int) ∧ v6 = .int .i64 (V * 10 ^ j) ∧ wr = W)
    case atStart => exact ⟨0, by omega, rfl, by simp, rfl⟩
    case round =>
      obtain ⟨j, hjg, rfl, rfl, hwr⟩ := hrel
      have hw3 := hwr.symm
      clear hwr
      subst hw3
      obtain ⟨hp0, hp1⟩ := HF.out.2.1 j (by omega)
      have hnx := HF.out.2.2.1 j
      have HNX : Hid _ := hnx
      clear hnx
      by_cases hlt : (j : Int) < 9 - (K : Int)
      · obtain ⟨g, rfl⟩ : ∃ g, gk = g + 1 := ⟨gk - 1, by omega⟩
        obtain ⟨hq0, hq1⟩ := HF.out.2.1 (j + 1) (by omega)
        rw [HNX.out] at hq0 hq1
        generalize V * 10 ^ j = X at *
        go_wp2_with fail
        go_roundg g
        case measure => omega
        case rel => exact ⟨j + 1, by omega, by simp, by rw [HNX.out], rfl⟩
      · have hjK : j = 9 - K := by omega
        subst hjK
        generalize hX : V * 10 ^ (9 - K) = X at *
        go_wp2_with fail
        go_ret2
        have hfr := HF.out.2.2.2.1
        refine ⟨r.extract K r.size, .int .i64 X, ?_, HF.out.2.2.2.2.2, (HF.out.1 X).1, (HF.out.1 X).2, ⟨X, .inl ⟨rfl, hp0, hp1⟩⟩, ?_⟩
        · rw [hfr]
          by_cases h0 : K = 0
          · subst h0; rfl
          · rw [if_neg h0]
            have : decide (0 < K) = true := by simp; omega
            simp [this]
        · intro x hx
          rw [hfr] at hx
          split at hx
          · cases hx
          · cases hx
            exact ⟨HF.out.2.2.2.2.1, rfl⟩
  · rw [if_neg hp, decide_eq_false hp] at hm1
    have hfr : frG (bl s) = some (none, bl s) := by unfold frG; rw [if_neg hp]
    have HFR : Hid _ := hfr
    have HM : Hid _ := And.intro hm1 trivial
    have HF : Hid (W.heap[B]? = some (.cells (cs.setIfInBounds off v) t (0, 0))) := (by
      rw [hB]
      have e : cs.setIfInBounds off v = cs := by
        obtain ⟨hlt, hh⟩ := Array.getElem?_eq_some_iff.1 hv
        apply Array.ext
        · simp
        · intro i h1 h2
          rw [Array.getElem_setIfInBounds]
          split
          · rename_i q; subst q; exact hh.symm
          · rfl
      rw [e] : W.heap[B]? = some (.cells (cs.setIfInBounds off v) t (0, 0)))
    clear hm1 hp hB hv h1 hfr
    go_enter Tryz.func193, Tryz.ntmps193
    go_wp2_with (first | (go_at_call 156; refine Calls.mono HM.out.1 ?_; rintro e w' ⟨rfl, rfl⟩))
    go_ret2
    refine ⟨s, v, ?_, Nat.le_refl _, HF.out, Fro.refl _ _, ⟨0, .inr rfl⟩, fun x hx => by rw [HFR.out] at hx; cases hx; exact ⟨rfl, rfl⟩⟩
    rw [HFR.out]; rfl
end Go.Proofs.YtgaegajcejpmdaaGreatDoor.Dt
namespace Go.Proofs.YtgaegajcejpmdaaGreatDoor.Dt
open Go.RowKit
set_option linter.unusedVariables false

abbrev pt (b : Nat) : Value := .pointer (some ⟨b, 0, none⟩)
theorem en_mark : ∀ args w, (callFunc 187 args).run Tryz.prog w = .ok (.enter 187 args) w := enters_of Tryz.func187 (by kernel_rfl) rfl
theorem en_two : ∀ args w, (callFunc 190 args).run Tryz.prog w = .ok (.enter 190 args) w := enters_of Tryz.func190 (by kernel_rfl) rfl
theorem en_year : ∀ args w, (callFunc 188 args).run Tryz.prog w = .ok (.enter 188 args) w := enters_of Tryz.func188 (by kernel_rfl) rfl
theorem en_frac : ∀ args w, (callFunc 193 args).run Tryz.prog w = .ok (.enter 193 args) w := enters_of Tryz.func193 (by kernel_rfl) rfl
theorem en_num : ∀ args w, (callFunc 209 args).run Tryz.prog w = .ok (.enter 209 args) w := enters_of Tryz.func209 (by kernel_rfl) rfl
/-- A mark. -/
def gMk {σ : Type} (c : Int) : Gd σ := fun a l => if l.head? = some c then some (a, l.tail) else none
theorem fc_mark {σ : Type} {U : World} {O : Nat → Prop} {St : σ → World → Prop} (c : UInt8) (b : Nat) (h : U.heap[b]? = some (.cells #[.string ⟨#[c]⟩] 9 (0, 0))) (o : ¬ O b) : FC U O St (187, #[pt b]) (gMk (c.toNat : Int)) := by
  refine ⟨en_mark, fun W a s hW ha hs => ?_⟩
  refine Calls.mono (mark_c s c b W (hW.at h o) hs) ?_
  rintro e w' ⟨rfl, rfl⟩
  refine ⟨_, _, a, rfl, hW, ha, ?_, ?_⟩
  · split
    · rw [ByteArray.size_extract]; omega
    · exact Nat.le_refl _
  · unfold gMk
    by_cases hh : (bl s).head? = some (c.toNat : Int)
    · rw [if_pos hh]
      simp only [hh]
      simp [bl_ext, List.drop_one]
    · rw [if_neg hh]
      simp [hh]
/-- A cell of the state that a closure writes. -/
def CellSt {σ : Type} (St : σ → World → Prop) (B off : Nat) (set : σ → Int → σ) : Prop :=
  ∀ a W, St a W → ∃ (cs : Array Value) (t : TypeId) (v : Value), W.heap[B]? = some (.cells cs t (0, 0)) ∧ cs[off]? = some v ∧ ∀ (n : Int) W', -1000000000 < n → n < 1000000000 → W'.heap[B]? = some (.cells (cs.setIfInBounds off (.int .i64 n)) t (0, 0)) → Fro (fun k => k = B) W W' → St (set a n) W'
theorem fro_in {O : Nat → Prop} {U W W' : World} {B : Nat} (hW : Fro O U W) (h : Fro (fun k => k = B) W W') (hB : O B) : Fro O U W' := hW.trans' h (fun i _ e => by rw [e]; exact hB)
theorem fc_two {σ : Type} {U : World} {O : Nat → Prop} {St : σ → World → Prop} (b1 b2 b3 B off : Nat) (lo hi : Int) (set : σ → Int → σ)
    (h1 : U.heap[b1]? = some (.cells #[.pointer (some ⟨B, off, none⟩)] 167 (0, 0))) (h2 : U.heap[b2]? = some (.cells #[.int .i64 lo] 3 (0, 0))) (h3 : U.heap[b3]? = some (.cells #[.int .i64 hi] 3 (0, 0)))
    (o1 : ¬ O b1) (o2 : ¬ O b2) (o3 : ¬ O b3) (hB : O B) (hst : CellSt St B off set) :
    FC U O St (190, #[pt b1, pt b2, pt b3]) (fun a l => (inB lo hi l).map fun x => (set a x.1, x.2)) := by
  refine ⟨en_two, fun W a s hW ha hs => ?_⟩
  obtain ⟨cs, t, v, hc, hv, hn⟩ := hst a W ha
  have hk := dk_le 2 (bl s)
  have hvb := dvl_bd (l := bl s) (j := dk 2 (bl s)) hk.2.2 (by omega)
  refine Calls.mono (two_c s b1 b2 b3 B off lo hi W cs t v (hW.at h1 o1) (hW.at h2 o2) (hW.at h3 o3) hc hv (fun e => o1 (e ▸ hB)) (fun e => o2 (e ▸ hB)) (fun e => o3 (e ▸ hB)) hs) ?_
  rintro e w' ⟨rfl, hx, hf⟩
  refine ⟨_, _, set a (dvl ((bl s).take (dk 2 (bl s)))), rfl, fro_in hW hf hB, hn _ _ (by omega) (by omega) hx hf, ?_, ?_⟩
  · rw [ByteArray.size_extract]; omega
  · rw [two_in]
    cases twOk lo hi (bl s)
    · rfl
    · exact ⟨rfl, rfl, bl_suf s _⟩
theorem fc_num {σ : Type} {U : World} {O : Nat → Prop} {St : σ → World → Prop} (b1 B off : Nat) (set : σ → Int → σ)
    (h1 : U.heap[b1]? = some (.cells #[.pointer (some ⟨B, off, none⟩)] 167 (0, 0)))
    (o1 : ¬ O b1) (hB : O B) (hst : CellSt St B off set) :
    FC U O St (209, #[pt b1]) (fun a l => if 0 < dk 9 l then some (set a (dvl (l.take (dk 9 l))), l.drop (dk 9 l)) else none) := by
  refine ⟨en_num, fun W a s hW ha hs => ?_⟩
  obtain ⟨cs, t, v, hc, hv, hn⟩ := hst a W ha
  have hk := dk_le 9 (bl s)
  have hvb := dvl_bd (l := bl s) (j := dk 9 (bl s)) hk.2.2 (by omega)
  refine Calls.mono (number_c s b1 B off W cs t v (hW.at h1 o1) hc hv (fun e => o1 (e ▸ hB)) hs) ?_
  rintro e w' ⟨rfl, hx, hf⟩
  refine ⟨_, _, set a (dvl ((bl s).take (dk 9 (bl s)))), rfl, fro_in hW hf hB, hn _ _ (by omega) (by omega) hx hf, ?_, ?_⟩
  · rw [ByteArray.size_extract]; omega
  · by_cases h0 : 0 < dk 9 (bl s)
    · rw [if_pos h0]
      exact ⟨by simpa using h0, rfl, bl_suf s _⟩
    · rw [if_neg h0]
      simpa using h0
theorem fc_year {σ : Type} {U : World} {O : Nat → Prop} {St : σ → World → Prop} (b1 B off : Nat) (set : σ → Int → σ)
    (h1 : U.heap[b1]? = some (.cells #[.pointer (some ⟨B, off, none⟩)] 167 (0, 0)))
    (o1 : ¬ O b1) (hB : O B) (hst : CellSt St B off set) :
    FC U O St (188, #[pt b1]) (fun a l => if yrOk (yrK l) then some (set a (yrV l), (yrK l).drop (dk 9 (yrK l))) else none) := by
  refine ⟨en_year, fun W a s hW ha hs => ?_⟩
  obtain ⟨cs, t, v, hc, hv, hn⟩ := hst a W ha
  have hvb := dvl_bd (l := yrK (bl s)) (j := dk 9 (yrK (bl s))) (dk_le 9 _).2.2 (dk_le 9 _).1
  have hy : -1000000000 < yrV (bl s) ∧ yrV (bl s) < 1000000000 := by unfold yrV; split <;> omega
  refine Calls.mono (year_c s b1 B off W cs t v (hW.at h1 o1) hc hv (fun e => o1 (e ▸ hB)) hs) ?_
  rintro e w' ⟨t', rfl, hbt, hts, hx, hf⟩
  refine ⟨_, _, set a (yrV (bl s)), rfl, fro_in hW hf hB, hn _ _ hy.1 hy.2 hx hf, hts, ?_⟩
  cases hq : yrOk (yrK (bl s))
  · rfl
  · exact ⟨rfl, rfl, hbt⟩
theorem fc_frac {σ : Type} {U : World} {O : Nat → Prop} {St : σ → World → Prop} (b1 B off : Nat) (set : σ → Int → σ)
    (h1 : U.heap[b1]? = some (.cells #[.pointer (some ⟨B, off, none⟩)] 167 (0, 0)))
    (o1 : ¬ O b1) (hB : O B) (hst : CellSt St B off set)
    (hst0 : ∀ a W, St a W → ∀ W' (cs : Array Value) (t : TypeId) (v : Value), W.heap[B]? = some (.cells cs t (0, 0)) → cs[off]? = some v → W'.heap[B]? = some (.cells (cs.setIfInBounds off v) t (0, 0)) → Fro (fun k => k = B) W W' → St a W') :
    FC U O St (193, #[pt b1]) (fun a l => (frG l).map fun x => (match x.1 with | some n => set a n | none => a, x.2)) := by
  refine ⟨en_frac, fun W a s hW ha hs => ?_⟩
  obtain ⟨cs, t, v, hc, hv, hn⟩ := hst a W ha
  refine Calls.mono (frac_c s b1 B off W cs t v (hW.at h1 o1) hc hv (fun e => o1 (e ▸ hB)) hs) ?_
  rintro e w' ⟨t', u, rfl, hts, hx, hf, hu, hm⟩
  cases hg : frG (bl s) with
  | none =>
    obtain ⟨x, hu | hu⟩ := hu
    · obtain ⟨rfl, x0, x1⟩ := hu
      exact ⟨t', _, set a x, rfl, fro_in hW hf hB, hn _ _ (by omega) (by omega) hx hf, hts, by simp⟩
    · subst hu
      exact ⟨t', _, a, rfl, fro_in hW hf hB, hst0 a W ha w' cs t u hc hv hx hf, hts, by simp⟩
  | some x =>
    obtain ⟨hbt, hux⟩ := hm x hg
    obtain ⟨o, l1⟩ := x
    cases o with
    | none =>
      dsimp only at hux
      subst hux
      exact ⟨t', _, a, rfl, fro_in hW hf hB, hst0 a W ha w' cs t u hc hv hx hf, hts, by simp; exact hbt⟩
    | some n =>
      dsimp only at hux
      subst hux
      have hn2 : 0 ≤ n ∧ n < 1000000000 := by
        obtain ⟨y, hu | hu⟩ := hu
        · obtain ⟨e, y0, y1⟩ := hu
          cases e
          exact ⟨y0, y1⟩
        · unfold frG at hg
          split at hg
          · split at hg
            · cases hg
            · cases hg
              have hk := dk_le 9 (bl s).tail
              have hvb := dvl_in _ (dgs_take (l := (bl s).tail) (n := dk 9 (bl s).tail) hk.2.2).1
              rw [(dgs_take (l := (bl s).tail) (n := dk 9 (bl s).tail) hk.2.2).2] at hvb
              have p1 : (0 : Int) < 10 ^ (9 - dk 9 (bl s).tail) := Int.pow_pos (by omega)
              refine ⟨Int.mul_nonneg hvb.1 (by omega), ?_⟩
              have p2 := Int.mul_lt_mul_of_pos_right hvb.2 p1
              rw [← Int.pow_add, show dk 9 (bl s).tail + (9 - dk 9 (bl s).tail) = 9 by omega] at p2
              simpa using p2
          · cases hg
      exact ⟨t', _, set a n, rfl, fro_in hW hf hB, hn _ _ (by omega) (by omega) hx hf, hts, by simp; exact hbt⟩
/-! The makers. -/
theorem mk_mark (v : ByteArray) (w : World) : Calls Tryz.prog 159 #[.string v] w fun e w' => ∃ b, e = .returned (fnV (187, #[pt b])) ∧ w.heap.size ≤ b ∧ w'.heap[b]? = some (.cells #[.string v] 9 (0, 0)) ∧ Below w.heap.size w w' := by
  go_enter Tryz.func159, Tryz.ntmps159
  go_wp2_with fail
  go_ret
  exact ⟨w.heap.size, rfl, Nat.le_refl _, nw_heap _ _, (Below.refl _ _).alloc (Nat.le_refl _) _⟩
theorem box3' (w : World) (A B C : Obj) : (((w.alloc A).alloc B).alloc C).heap[w.heap.size]? = some A ∧ (((w.alloc A).alloc B).alloc C).heap[w.heap.size + 1]? = some B ∧ (((w.alloc A).alloc B).alloc C).heap[w.heap.size + 1 + 1]? = some C ∧ Below w.heap.size w (((w.alloc A).alloc B).alloc C) := by
  have hA := nw_heap w A
  have hB := nw_heap (w.alloc A) B
  have hC := nw_heap ((w.alloc A).alloc B) C
  have b1 : Below (w.alloc A).heap.size (w.alloc A) ((w.alloc A).alloc B) := (Below.refl _ _).alloc (Nat.le_refl _) _
  have b2 : Below ((w.alloc A).alloc B).heap.size ((w.alloc A).alloc B) (((w.alloc A).alloc B).alloc C) := (Below.refl _ _).alloc (Nat.le_refl _) _
  rw [sza] at hB
  rw [sza, sza] at hC
  refine ⟨(b2.block _ (by simp; omega)).trans ((b1.block _ (by simp)).trans hA), (b2.block _ (by simp)).trans hB, hC, ?_⟩
  exact (((Below.refl _ _).alloc (Nat.le_refl _) _).alloc (by simp) _).alloc (by simp; omega) _
theorem mk_two (p : Option Addr) (lo hi : Int) (w : World) : Calls Tryz.prog 161 #[.pointer p, .int .i64 lo, .int .i64 hi] w fun e w' => e = .returned (fnV (190, #[pt w.heap.size, pt (w.heap.size + 1), pt (w.heap.size + 1 + 1)])) ∧ (w'.heap[w.heap.size]? = some (.cells #[.pointer p] 167 (0, 0)) ∧ w'.heap[w.heap.size + 1]? = some (.cells #[.int .i64 lo] 3 (0, 0)) ∧ w'.heap[w.heap.size + 1 + 1]? = some (.cells #[.int .i64 hi] 3 (0, 0)) ∧ Below w.heap.size w w') := by
  have HB : Hid _ := box3' w (.cells #[.pointer p] 167) (.cells #[.int .i64 lo] 3) (.cells #[.int .i64 hi] 3)
  go_enter Tryz.func161, Tryz.ntmps161
  go_wp2_with fail
  go_ret
  exact ⟨rfl, HB.out⟩
theorem mk_year (p : Option Addr) (w : World) : Calls Tryz.prog 160 #[.pointer p] w fun e w' => ∃ b, e = .returned (fnV (188, #[pt b])) ∧ w.heap.size ≤ b ∧ w'.heap[b]? = some (.cells #[.pointer p] 167 (0, 0)) ∧ Below w.heap.size w w' := by
  go_enter Tryz.func160, Tryz.ntmps160
  go_wp2_with fail
  go_ret
  exact ⟨w.heap.size, rfl, Nat.le_refl _, nw_heap _ _, (Below.refl _ _).alloc (Nat.le_refl _) _⟩
theorem mk_day (p : Option Addr) (w : World) : Calls Tryz.prog 162 #[.pointer p] w fun e w' => ∃ b, e = .returned (fnV (191, #[pt b])) ∧ w.heap.size ≤ b ∧ w'.heap[b]? = some (.cells #[.pointer p] 143 (0, 0)) ∧ Below w.heap.size w w' := by
  go_enter Tryz.func162, Tryz.ntmps162
  go_wp2_with fail
  go_ret
  exact ⟨w.heap.size, rfl, Nat.le_refl _, nw_heap _ _, (Below.refl _ _).alloc (Nat.le_refl _) _⟩
theorem mk_clock (p : Option Addr) (w : World) : Calls Tryz.prog 163 #[.pointer p] w fun e w' => ∃ b, e = .returned (fnV (192, #[pt b])) ∧ w.heap.size ≤ b ∧ w'.heap[b]? = some (.cells #[.pointer p] 167 (0, 0)) ∧ Below w.heap.size w w' := by
  go_enter Tryz.func163, Tryz.ntmps163
  go_wp2_with fail
  go_ret
  exact ⟨w.heap.size, rfl, Nat.le_refl _, nw_heap _ _, (Below.refl _ _).alloc (Nat.le_refl _) _⟩
theorem mk_frac (p : Option Addr) (w : World) : Calls Tryz.prog 164 #[.pointer p] w fun e w' => ∃ b, e = .returned (fnV (193, #[pt b])) ∧ w.heap.size ≤ b ∧ w'.heap[b]? = some (.cells #[.pointer p] 167 (0, 0)) ∧ Below w.heap.size w w' := by
  go_enter Tryz.func164, Tryz.ntmps164
  go_wp2_with fail
  go_ret
  exact ⟨w.heap.size, rfl, Nat.le_refl _, nw_heap _ _, (Below.refl _ _).alloc (Nat.le_refl _) _⟩
theorem mk_zone (p : Option Addr) (w : World) : Calls Tryz.prog 165 #[.pointer p] w fun e w' => ∃ b, e = .returned (fnV (194, #[pt b])) ∧ w.heap.size ≤ b ∧ w'.heap[b]? = some (.cells #[.pointer p] 143 (0, 0)) ∧ Below w.heap.size w w' := by
  go_enter Tryz.func165, Tryz.ntmps165
  go_wp2_with fail
  go_ret
  exact ⟨w.heap.size, rfl, Nat.le_refl _, nw_heap _ _, (Below.refl _ _).alloc (Nat.le_refl _) _⟩
theorem mk_num (p : Option Addr) (w : World) : Calls Tryz.prog 185 #[.pointer p] w fun e w' => ∃ b, e = .returned (fnV (209, #[pt b])) ∧ w.heap.size ≤ b ∧ w'.heap[b]? = some (.cells #[.pointer p] 167 (0, 0)) ∧ Below w.heap.size w w' := by
  go_enter Tryz.func185, Tryz.ntmps185
  go_wp2_with fail
  go_ret
  exact ⟨w.heap.size, rfl, Nat.le_refl _, nw_heap _ _, (Below.refl _ _).alloc (Nat.le_refl _) _⟩
end Go.Proofs.YtgaegajcejpmdaaGreatDoor.Dt
