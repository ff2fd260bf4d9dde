/- Fields by their closures; the functions that make them. -/
import Derived.Test.YtijcbgjlofcdfaaRd4
namespace Go.Proofs.Ytijcbgjlofcdfaa
open Go.RowKit
set_option linter.unusedVariables false

abbrev pt (b : Nat) : Value := .pointer (some ⟨b, 0, none⟩)
theorem en_mark : ∀ args w, (callFunc 74 args).run Try.prog w = .ok (.enter 74 args) w := enters_of Try.func74 (by kernel_rfl) rfl
theorem en_two : ∀ args w, (callFunc 77 args).run Try.prog w = .ok (.enter 77 args) w := enters_of Try.func77 (by kernel_rfl) rfl
theorem en_year : ∀ args w, (callFunc 75 args).run Try.prog w = .ok (.enter 75 args) w := enters_of Try.func75 (by kernel_rfl) rfl
theorem en_frac : ∀ args w, (callFunc 80 args).run Try.prog w = .ok (.enter 80 args) w := enters_of Try.func80 (by kernel_rfl) rfl
theorem en_num : ∀ args w, (callFunc 90 args).run Try.prog w = .ok (.enter 90 args) w := enters_of Try.func90 (by kernel_rfl) rfl
/-- A mark. -/
def gMk {σ : Type} (c : Int) : Gd σ := fun a l => if l.head? = some c then some (a, l.tail) else none
theorem fc_mark {σ : Type} {U : World} {O : Nat → Prop} {St : σ → World → Prop} (c : UInt8) (b : Nat) (h : U.heap[b]? = some (.cells #[.string ⟨#[c]⟩] 9 (0, 0))) (o : ¬ O b) : FC U O St (74, #[pt b]) (gMk (c.toNat : Int)) := by
  refine ⟨en_mark, fun W a s hW ha hs => ?_⟩
  refine Calls.mono (mark_c s c b W (hW.at h o) hs) ?_
  rintro e w' ⟨rfl, rfl⟩
  refine ⟨_, _, a, rfl, hW, ha, ?_, ?_⟩
  · split
    · rw [ByteArray.size_extract]; omega
    · exact Nat.le_refl _
  · unfold gMk
    by_cases hh : (bl s).head? = some (c.toNat : Int)
    · rw [if_pos hh]
      simp only [hh]
      simp [bl_ext, List.drop_one]
    · rw [if_neg hh]
      simp [hh]
/-- A cell of the state that a closure writes. -/
def CellSt {σ : Type} (St : σ → World → Prop) (B off : Nat) (set : σ → Int → σ) : Prop :=
  ∀ a W, St a W → ∃ (cs : Array Value) (t : TypeId) (v : Value), W.heap[B]? = some (.cells cs t (0, 0)) ∧ cs[off]? = some v ∧ ∀ (n : Int) W', -1000000000 < n → n < 1000000000 → W'.heap[B]? = some (.cells (cs.setIfInBounds off (.int .i64 n)) t (0, 0)) → Fro (fun k => k = B) W W' → St (set a n) W'
theorem fro_in {O : Nat → Prop} {U W W' : World} {B : Nat} (hW : Fro O U W) (h : Fro (fun k => k = B) W W') (hB : O B) : Fro O U W' := hW.trans' h (fun i _ e => by rw [e]; exact hB)
theorem fc_two {σ : Type} {U : World} {O : Nat → Prop} {St : σ → World → Prop} (b1 b2 b3 B off : Nat) (lo hi : Int) (set : σ → Int → σ)
    (h1 : U.heap[b1]? = some (.cells #[.pointer (some ⟨B, off, none⟩)] 86 (0, 0))) (h2 : U.heap[b2]? = some (.cells #[.int .i64 lo] 3 (0, 0))) (h3 : U.heap[b3]? = some (.cells #[.int .i64 hi] 3 (0, 0)))
    (o1 : ¬ O b1) (o2 : ¬ O b2) (o3 : ¬ O b3) (hB : O B) (hst : CellSt St B off set) :
    FC U O St (77, #[pt b1, pt b2, pt b3]) (fun a l => (inB lo hi l).map fun x => (set a x.1, x.2)) := by
  refine ⟨en_two, fun W a s hW ha hs => ?_⟩
  obtain ⟨cs, t, v, hc, hv, hn⟩ := hst a W ha
  have hk := dk_le 2 (bl s)
  have hvb := dvl_bd (l := bl s) (j := dk 2 (bl s)) hk.2.2 (by omega)
  refine Calls.mono (two_c s b1 b2 b3 B off lo hi W cs t v (hW.at h1 o1) (hW.at h2 o2) (hW.at h3 o3) hc hv (fun e => o1 (e ▸ hB)) (fun e => o2 (e ▸ hB)) (fun e => o3 (e ▸ hB)) hs) ?_
  rintro e w' ⟨rfl, hx, hf⟩
  refine ⟨_, _, set a (dvl ((bl s).take (dk 2 (bl s)))), rfl, fro_in hW hf hB, hn _ _ (by omega) (by omega) hx hf, ?_, ?_⟩
  · rw [ByteArray.size_extract]; omega
  · rw [two_in]
    cases twOk lo hi (bl s)
    · rfl
    · exact ⟨rfl, rfl, bl_suf s _⟩
theorem fc_num {σ : Type} {U : World} {O : Nat → Prop} {St : σ → World → Prop} (b1 B off : Nat) (set : σ → Int → σ)
    (h1 : U.heap[b1]? = some (.cells #[.pointer (some ⟨B, off, none⟩)] 86 (0, 0)))
    (o1 : ¬ O b1) (hB : O B) (hst : CellSt St B off set) :
    FC U O St (90, #[pt b1]) (fun a l => if 0 < dk 9 l then some (set a (dvl (l.take (dk 9 l))), l.drop (dk 9 l)) else none) := by
  refine ⟨en_num, fun W a s hW ha hs => ?_⟩
  obtain ⟨cs, t, v, hc, hv, hn⟩ := hst a W ha
  have hk := dk_le 9 (bl s)
  have hvb := dvl_bd (l := bl s) (j := dk 9 (bl s)) hk.2.2 (by omega)
  refine Calls.mono (number_c s b1 B off W cs t v (hW.at h1 o1) hc hv (fun e => o1 (e ▸ hB)) hs) ?_
  rintro e w' ⟨rfl, hx, hf⟩
  refine ⟨_, _, set a (dvl ((bl s).take (dk 9 (bl s)))), rfl, fro_in hW hf hB, hn _ _ (by omega) (by omega) hx hf, ?_, ?_⟩
  · rw [ByteArray.size_extract]; omega
  · by_cases h0 : 0 < dk 9 (bl s)
    · rw [if_pos h0]
      exact ⟨by simpa using h0, rfl, bl_suf s _⟩
    · rw [if_neg h0]
      simpa using h0
theorem fc_year {σ : Type} {U : World} {O : Nat → Prop} {St : σ → World → Prop} (b1 B off : Nat) (set : σ → Int → σ)
    (h1 : U.heap[b1]? = some (.cells #[.pointer (some ⟨B, off, none⟩)] 86 (0, 0)))
    (o1 : ¬ O b1) (hB : O B) (hst : CellSt St B off set) :
    FC U O St (75, #[pt b1]) (fun a l => if yrOk (yrK l) then some (set a (yrV l), (yrK l).drop (dk 9 (yrK l))) else none) := by
  refine ⟨en_year, fun W a s hW ha hs => ?_⟩
  obtain ⟨cs, t, v, hc, hv, hn⟩ := hst a W ha
  have hvb := dvl_bd (l := yrK (bl s)) (j := dk 9 (yrK (bl s))) (dk_le 9 _).2.2 (dk_le 9 _).1
  have hy : -1000000000 < yrV (bl s) ∧ yrV (bl s) < 1000000000 := by unfold yrV; split <;> omega
  refine Calls.mono (year_c s b1 B off W cs t v (hW.at h1 o1) hc hv (fun e => o1 (e ▸ hB)) hs) ?_
  rintro e w' ⟨t', rfl, hbt, hts, hx, hf⟩
  refine ⟨_, _, set a (yrV (bl s)), rfl, fro_in hW hf hB, hn _ _ hy.1 hy.2 hx hf, hts, ?_⟩
  cases hq : yrOk (yrK (bl s))
  · rfl
  · exact ⟨rfl, rfl, hbt⟩
theorem fc_frac {σ : Type} {U : World} {O : Nat → Prop} {St : σ → World → Prop} (b1 B off : Nat) (set : σ → Int → σ)
    (h1 : U.heap[b1]? = some (.cells #[.pointer (some ⟨B, off, none⟩)] 86 (0, 0)))
    (o1 : ¬ O b1) (hB : O B) (hst : CellSt St B off set)
    (hst0 : ∀ a W, St a W → ∀ W' (cs : Array Value) (t : TypeId) (v : Value), W.heap[B]? = some (.cells cs t (0, 0)) → cs[off]? = some v → W'.heap[B]? = some (.cells (cs.setIfInBounds off v) t (0, 0)) → Fro (fun k => k = B) W W' → St a W') :
    FC U O St (80, #[pt b1]) (fun a l => (frG l).map fun x => (match x.1 with | some n => set a n | none => a, x.2)) := by
  refine ⟨en_frac, fun W a s hW ha hs => ?_⟩
  obtain ⟨cs, t, v, hc, hv, hn⟩ := hst a W ha
  refine Calls.mono (frac_c s b1 B off W cs t v (hW.at h1 o1) hc hv (fun e => o1 (e ▸ hB)) hs) ?_
  rintro e w' ⟨t', u, rfl, hts, hx, hf, hu, hm⟩
  cases hg : frG (bl s) with
  | none =>
    obtain ⟨x, hu | hu⟩ := hu
    · obtain ⟨rfl, x0, x1⟩ := hu
      exact ⟨t', _, set a x, rfl, fro_in hW hf hB, hn _ _ (by omega) (by omega) hx hf, hts, by simp⟩
    · subst hu
      exact ⟨t', _, a, rfl, fro_in hW hf hB, hst0 a W ha w' cs t u hc hv hx hf, hts, by simp⟩
  | some x =>
    obtain ⟨hbt, hux⟩ := hm x hg
    obtain ⟨o, l1⟩ := x
    cases o with
    | none =>
      dsimp only at hux
      subst hux
      exact ⟨t', _, a, rfl, fro_in hW hf hB, hst0 a W ha w' cs t u hc hv hx hf, hts, by simp; exact hbt⟩
    | some n =>
      dsimp only at hux
      subst hux
      have hn2 : 0 ≤ n ∧ n < 1000000000 := by
        obtain ⟨y, hu | hu⟩ := hu
        · obtain ⟨e, y0, y1⟩ := hu
          cases e
          exact ⟨y0, y1⟩
        · unfold frG at hg
          split at hg
          · split at hg
            · cases hg
            · cases hg
              have hk := dk_le 9 (bl s).tail
              have hvb := dvl_in _ (dgs_take (l := (bl s).tail) (n := dk 9 (bl s).tail) hk.2.2).1
              rw [(dgs_take (l := (bl s).tail) (n := dk 9 (bl s).tail) hk.2.2).2] at hvb
              have p1 : (0 : Int) < 10 ^ (9 - dk 9 (bl s).tail) := Int.pow_pos (by omega)
              refine ⟨Int.mul_nonneg hvb.1 (by omega), ?_⟩
              have p2 := Int.mul_lt_mul_of_pos_right hvb.2 p1
              rw [← Int.pow_add, show dk 9 (bl s).tail + (9 - dk 9 (bl s).tail) = 9 by omega] at p2
              simpa using p2
          · cases hg
      exact ⟨t', _, set a n, rfl, fro_in hW hf hB, hn _ _ (by omega) (by omega) hx hf, hts, by simp; exact hbt⟩
/-! The makers. -/
theorem mk_mark (v : ByteArray) (w : World) : Calls Try.prog 58 #[.string v] w fun e w' => ∃ b, e = .returned (fnV (74, #[pt b])) ∧ w.heap.size ≤ b ∧ w'.heap[b]? = some (.cells #[.string v] 9 (0, 0)) ∧ Below w.heap.size w w' := by
  go_enter Try.func58, Try.ntmps58
  go_wp2_with fail
  go_ret
  exact ⟨w.heap.size, rfl, Nat.le_refl _, nw_heap _ _, (Below.refl _ _).alloc (Nat.le_refl _) _⟩
theorem box3' (w : World) (A B C : Obj) : (((w.alloc A).alloc B).alloc C).heap[w.heap.size]? = some A ∧ (((w.alloc A).alloc B).alloc C).heap[w.heap.size + 1]? = some B ∧ (((w.alloc A).alloc B).alloc C).heap[w.heap.size + 1 + 1]? = some C ∧ Below w.heap.size w (((w.alloc A).alloc B).alloc C) := by
  have hA := nw_heap w A
  have hB := nw_heap (w.alloc A) B
  have hC := nw_heap ((w.alloc A).alloc B) C
  have b1 : Below (w.alloc A).heap.size (w.alloc A) ((w.alloc A).alloc B) := (Below.refl _ _).alloc (Nat.le_refl _) _
  have b2 : Below ((w.alloc A).alloc B).heap.size ((w.alloc A).alloc B) (((w.alloc A).alloc B).alloc C) := (Below.refl _ _).alloc (Nat.le_refl _) _
  rw [sza] at hB
  rw [sza, sza] at hC
  refine ⟨(b2.block _ (by simp; omega)).trans ((b1.block _ (by simp)).trans hA), (b2.block _ (by simp)).trans hB, hC, ?_⟩
  exact (((Below.refl _ _).alloc (Nat.le_refl _) _).alloc (by simp) _).alloc (by simp; omega) _
theorem mk_two (p : Option Addr) (lo hi : Int) (w : World) : Calls Try.prog 60 #[.pointer p, .int .i64 lo, .int .i64 hi] w fun e w' => e = .returned (fnV (77, #[pt w.heap.size, pt (w.heap.size + 1), pt (w.heap.size + 1 + 1)])) ∧ (w'.heap[w.heap.size]? = some (.cells #[.pointer p] 86 (0, 0)) ∧ w'.heap[w.heap.size + 1]? = some (.cells #[.int .i64 lo] 3 (0, 0)) ∧ w'.heap[w.heap.size + 1 + 1]? = some (.cells #[.int .i64 hi] 3 (0, 0)) ∧ Below w.heap.size w w') := by
  have HB : Hid _ := box3' w (.cells #[.pointer p] 86) (.cells #[.int .i64 lo] 3) (.cells #[.int .i64 hi] 3)
  go_enter Try.func60, Try.ntmps60
  go_wp2_with fail
  go_ret
  exact ⟨rfl, HB.out⟩
theorem mk_year (p : Option Addr) (w : World) : Calls Try.prog 59 #[.pointer p] w fun e w' => ∃ b, e = .returned (fnV (75, #[pt b])) ∧ w.heap.size ≤ b ∧ w'.heap[b]? = some (.cells #[.pointer p] 86 (0, 0)) ∧ Below w.heap.size w w' := by
  go_enter Try.func59, Try.ntmps59
  go_wp2_with fail
  go_ret
  exact ⟨w.heap.size, rfl, Nat.le_refl _, nw_heap _ _, (Below.refl _ _).alloc (Nat.le_refl _) _⟩
theorem mk_day (p : Option Addr) (w : World) : Calls Try.prog 61 #[.pointer p] w fun e w' => ∃ b, e = .returned (fnV (78, #[pt b])) ∧ w.heap.size ≤ b ∧ w'.heap[b]? = some (.cells #[.pointer p] 56 (0, 0)) ∧ Below w.heap.size w w' := by
  go_enter Try.func61, Try.ntmps61
  go_wp2_with fail
  go_ret
  exact ⟨w.heap.size, rfl, Nat.le_refl _, nw_heap _ _, (Below.refl _ _).alloc (Nat.le_refl _) _⟩
theorem mk_clock (p : Option Addr) (w : World) : Calls Try.prog 62 #[.pointer p] w fun e w' => ∃ b, e = .returned (fnV (79, #[pt b])) ∧ w.heap.size ≤ b ∧ w'.heap[b]? = some (.cells #[.pointer p] 86 (0, 0)) ∧ Below w.heap.size w w' := by
  go_enter Try.func62, Try.ntmps62
  go_wp2_with fail
  go_ret
  exact ⟨w.heap.size, rfl, Nat.le_refl _, nw_heap _ _, (Below.refl _ _).alloc (Nat.le_refl _) _⟩
theorem mk_frac (p : Option Addr) (w : World) : Calls Try.prog 63 #[.pointer p] w fun e w' => ∃ b, e = .returned (fnV (80, #[pt b])) ∧ w.heap.size ≤ b ∧ w'.heap[b]? = some (.cells #[.pointer p] 86 (0, 0)) ∧ Below w.heap.size w w' := by
  go_enter Try.func63, Try.ntmps63
  go_wp2_with fail
  go_ret
  exact ⟨w.heap.size, rfl, Nat.le_refl _, nw_heap _ _, (Below.refl _ _).alloc (Nat.le_refl _) _⟩
theorem mk_zone (p : Option Addr) (w : World) : Calls Try.prog 64 #[.pointer p] w fun e w' => ∃ b, e = .returned (fnV (81, #[pt b])) ∧ w.heap.size ≤ b ∧ w'.heap[b]? = some (.cells #[.pointer p] 56 (0, 0)) ∧ Below w.heap.size w w' := by
  go_enter Try.func64, Try.ntmps64
  go_wp2_with fail
  go_ret
  exact ⟨w.heap.size, rfl, Nat.le_refl _, nw_heap _ _, (Below.refl _ _).alloc (Nat.le_refl _) _⟩
theorem mk_num (p : Option Addr) (w : World) : Calls Try.prog 85 #[.pointer p] w fun e w' => ∃ b, e = .returned (fnV (90, #[pt b])) ∧ w.heap.size ≤ b ∧ w'.heap[b]? = some (.cells #[.pointer p] 86 (0, 0)) ∧ Below w.heap.size w w' := by
  go_enter Try.func85, Try.ntmps85
  go_wp2_with fail
  go_ret
  exact ⟨w.heap.size, rfl, Nat.le_refl _, nw_heap _ _, (Below.refl _ _).alloc (Nat.le_refl _) _⟩
end Go.Proofs.Ytijcbgjlofcdfaa
