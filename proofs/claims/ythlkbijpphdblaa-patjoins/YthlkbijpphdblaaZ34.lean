/- Joined: C2, C3. -/
import Derived.Test.YthlkbijpphdblaaC1
import Derived.Defers
import Derived.Recover
namespace Go.Proofs.Ythlkbijpphdblaa
open Go.RowKit
set_option linter.unusedVariables false

theorem catch_idle (a b : Addr) (w : World) :
    CallsD Try.prog 35 #[.pointer (some a), .pointer (some b)] .returning w fun e u' w' => e = .returned (.tuple #[]) ∧ u' = .returning ∧ w' = w := by
  refine callsD_of_wpS Try.func35 rfl fun c₀ cs hu => ?_
  apply wpS_seq
  apply wpS_region
  simp [wpOpsS, go_sem, recoverD, hu, Try.ntmps35, Exit.thenS]
  refine wpS_of_wp ?_
  go_wp2
  cases c₀
  simp_all [bodyPostS, results, Try.results35]
/-- What the closure leaves. -/
structure Caught (E K : Nat) (place err : Int) (w w' : World) : Prop where
  e : w'.heap[E]? = some (.cells zN 27 (0, 0))
  k : w'.heap[K]? = some (.cells #[.int .i64 place, .int .i64 err] 55 (0, 0))
  fro : Fro (fun j => j = E ∨ j = K) w w'
theorem caught_w {E K : Nat} {place err : Int} {w : World} {x0 x1 x2 x3 x4 y0 y1 : Value} (hE : w.heap[E]? = some (.cells #[x0, x1, x2, x3, x4] 27 (0, 0))) (hK : w.heap[K]? = some (.cells #[y0, y1] 55 (0, 0))) (hEK : E ≠ K) :
    Caught E K place err w (((put5 w E (.int .i64 0) (.slice none 0 0) (.int .i64 0) (.int .i64 0) (.slice none 0 0)).setCell ⟨K, 0, none⟩ (.int .i64 place)).setCell ⟨K, 1, none⟩ (.int .i64 err)).drew := by
  have h1 := put5_at hE (.int .i64 0) (.slice none 0 0) (.int .i64 0) (.int .i64 0) (.slice none 0 0)
  have h2 := (put5_blk w E (.int .i64 0) (.slice none 0 0) (.int .i64 0) (.int .i64 0) (.slice none 0 0) K hEK.symm).trans hK
  have hf := put5_fro (Fro.refl (fun j => j = E ∨ j = K) w) (.inl (.inl rfl)) (.int .i64 0) (.slice none 0 0) (.int .i64 0) (.int .i64 0) (.slice none 0 0)
  obtain ⟨V, hV⟩ : ∃ V, put5 w E (.int .i64 0) (.slice none 0 0) (.int .i64 0) (.int .i64 0) (.slice none 0 0) = V := ⟨_, rfl⟩
  rw [hV] at h1 h2 hf ⊢
  clear hV
  have h3 := bset (i := 0) h2 (.int .i64 place)
  have h4 := bset (i := 1) h3 (.int .i64 err)
  simp only [List.setIfInBounds_toArray, List.set_cons_succ, List.set_cons_zero] at h4
  have h5 : ((V.setCell ⟨K, 0, none⟩ (.int .i64 place)).setCell ⟨K, 1, none⟩ (.int .i64 err)).heap[E]? = some (.cells zN 27 (0, 0)) := (Below.heap_setCell _ ⟨K, 1, none⟩ _ E hEK).trans ((Below.heap_setCell _ ⟨K, 0, none⟩ _ E hEK).trans h1)
  have h6 := ((hf.set (i := 0) (X := K) (.inl (.inr rfl)) (.int .i64 place)).set (i := 1) (X := K) (.inl (.inr rfl)) (.int .i64 err)).drewN 1
  obtain ⟨U, hU⟩ : ∃ U, (V.setCell ⟨K, 0, none⟩ (.int .i64 place)).setCell ⟨K, 1, none⟩ (.int .i64 err) = U := ⟨_, rfl⟩
  rw [hU] at h4 h5 h6 ⊢
  exact ⟨h5, h4, h6⟩
set_option maxHeartbeats 1600000 in
theorem catch_panic {E K : Nat} {place err : Int} {w : World} {x0 x1 x2 x3 x4 y0 y1 : Value} (hE : w.heap[E]? = some (.cells #[x0, x1, x2, x3, x4] 27 (0, 0))) (hK : w.heap[K]? = some (.cells #[y0, y1] 55 (0, 0))) (hEK : E ≠ K) :
    CallsD Try.prog 35 #[.pointer (some ⟨E, 0, none⟩), .pointer (some ⟨K, 0, none⟩)] (.panicking (flt place err)) w fun e u' w' =>
      e = .returned (.tuple #[]) ∧ u' = .panicking [{ v := .iface 55 (.agg #[.int .i64 place, .int .i64 err]), recovered := true }] ∧ Caught E K place err w w' := by
  obtain ⟨⟨e0, e1, e2, e3, e4⟩, g0, g1, g2, g3, g4⟩ := cells5 hE
  obtain ⟨⟨k0, k1⟩, kf0, kf1⟩ := blk2 hK
  have HE : Hid _ := And.intro hE hK
  clear hE hK
  have hta : ∀ w : World, (Instr.typeAssert (.iface 55 (.agg #[.int .i64 place, .int .i64 err])) 20 55 false).run Try.prog w = .ok (.agg #[.int .i64 place, .int .i64 err]) w := fun w => by kernel_rfl
  unfold flt
  refine callsD_of_wpS Try.func35 rfl fun c₀ cs hu => ?_
  apply wpS_seq
  apply wpS_region
  simp [wpOpsS, go_sem, recoverD, hu, Try.ntmps35, Exit.thenS, Array.replicate, List.replicate]
  refine wpS_of_wp ?_
  go_wp2
  go_region
  all_goals
    go_wp2
  simp [bodyPostS, results, Try.results35]
  exact caught_w HE.out.1 HE.out.2 hEK
end Go.Proofs.Ythlkbijpphdblaa
namespace Go.Proofs.Ythlkbijpphdblaa
open Go.RowKit
set_option linter.unusedVariables false

/-- A text as a pattern. -/
def whS (l : Bs) : R Nd := (patS (atomS l 41 0) l 0).bind fun x k => if k = l.length then .ok x k else .bad k 2
def WhQ (P : Nat) (w : World) (X : R Nd) (e : Ending) (w' : World) : Prop := match X with
  | .ok n _ => ∃ (q0 : Int) (s0 : Option Addr) (s1 s2 : Nat) (q2 q3 : Int) (t0 : Option Addr) (t1 t2 : Nat), e = .returned (.tuple #[.agg #[.int .i64 q0, .slice s0 s1 s2, .int .i64 q2, .int .i64 q3, .slice t0 t1 t2], .agg #[.int .i64 0, .int .i64 0]]) ∧ NdV (Nw w w') w' n [.int .i64 q0, .slice s0 s1 s2, .int .i64 q2, .int .i64 q3, .slice t0 t1 t2] ∧ Fro (fun j => j = P) w w'
  | .bad p er => e = .returned (.tuple #[.agg zN, .agg #[.int .i64 p, .int .i64 er]]) ∧ Fro (fun j => j = P) w w'
theorem wh_bad {P : Nat} {w w' : World} {X : R Nd} {p er : Int} (hx : .bad p er = X) (hf : Fro (fun j => j = P) w w') : WhQ P w X (.returned (.tuple #[.agg zN, .agg #[.int .i64 p, .int .i64 er]])) w' := by
  subst hx
  exact ⟨rfl, hf⟩
theorem wh_ok {P : Nat} {w w' : World} {X : R Nd} {n : Nd} {k : Nat} {q0 : Int} {s0 : Option Addr} {s1 s2 : Nat} {q2 q3 : Int} {t0 : Option Addr} {t1 t2 : Nat} (hx : .ok n k = X) (hn : NdV (Nw w w') w' n [.int .i64 q0, .slice s0 s1 s2, .int .i64 q2, .int .i64 q3, .slice t0 t1 t2]) (hf : Fro (fun j => j = P) w w') : WhQ P w X (.returned (.tuple #[.agg #[.int .i64 q0, .slice s0 s1 s2, .int .i64 q2, .int .i64 q3, .slice t0 t1 t2], .agg #[.int .i64 0, .int .i64 0]])) w' := by
  subst hx
  exact ⟨_, _, _, _, _, _, _, _, _, rfl, hn, hf⟩
/-- What lies behind the old memory may change too. -/
theorem fro_new {P E K : Nat} {w W W' : World} (h : Fro (fun j => j = P) w W) (hf : Fro (fun j => j = E ∨ j = K) W W') (hE : w.heap.size ≤ E) (hK : w.heap.size ≤ K) : Fro (fun j => j = P) w W' := h.trans' hf (fun i hi q => by rcases q with q | q <;> omega)
abbrev w2a (w : World) : World := (w.alloc (.cells zN 27)).alloc (.cells #[.int .i64 0, .int .i64 0] 55)
set_option maxRecDepth 4000 in
set_option maxHeartbeats 4000000 in
theorem whole_p {P : Nat} {w : World} {vb : Value} {l : Bs} (h : In P w vb l 0 0) : Calls Try.prog 17 #[pp P] w fun e w' => WhQ P w (whS l) e w' := by
  have hmf : ∀ (fn : Fn) (first cap : Array Value) (w : World), (Instr.makeFunc fn first cap).run Try.prog w = .ok (.func fn first cap) w := fun _ _ _ _ => rfl
  obtain ⟨X, hX⟩ : ∃ X, whS l = X := ⟨_, rfl⟩
  rw [hX]
  unfold whS at hX
  have hPw := lt_of h.ps
  have hbt := h.br.bt
  obtain ⟨xE, xK, b0⟩ := box2' w (.cells zN 27) (.cells #[.int .i64 0, .int .i64 0] 55)
  have z0 : (w2a w).heap.size = w.heap.size + 2 := by rw [sza, sza]
  have q := pattern_p (atom_p 41 0 (by omega)) (fun k x k' => atom_lt hbt 41 0 k x k') (h.below b0)
  cases hr : patS (atomS l 41 0) l 0 with
  | bad p er =>
    rw [hr] at q hX
    have HQ : Hid _ := And.intro q (And.intro hX (And.intro b0 (And.intro xE xK)))
    clear q h hX hr b0 xE xK hbt z0
    go_enter_defers Try.func17, Try.ntmps17
    go_wp2_with fail
    refine Calls.mono HQ.out.1 ?_
    rintro e w1 ⟨rfl, hf1⟩
    refine leaves_cons (f := 35) (args := #[.pointer (some ⟨w.heap.size, 0, none⟩), .pointer (some ⟨w.heap.size + 1, 0, none⟩)]) (by simp) (by simp [go_sem]) ?_
    have hE1 := hf1.at HQ.out.2.2.2.1 (by omega)
    have hK1 := hf1.at HQ.out.2.2.2.2 (by omega)
    refine (catch_panic hE1 hK1 (by omega)).mono ?_
    rintro e u' w6 ⟨rfl, rfl, hC⟩
    obtain ⟨⟨q0, q1, q2, q3, q4⟩, _⟩ := cells5 hC.e
    obtain ⟨⟨k0, k1⟩, _⟩ := blk2 hC.k
    have hfin := wh_bad HQ.out.2.1 (fro_new ((Fro.below HQ.out.2.2.1).trans hf1) hC.fro (Nat.le_refl _) (by omega))
    simp [Leaves, settle, results, Try.results17, go_sem, q0, q1, q2, q3, q4, k0, k1]
    exact hfin
  | ok x k1 =>
    rw [hr] at q hX
    rw [R.bind_ok] at hX
    have HQ : Hid _ := And.intro q (And.intro hX (And.intro b0 (And.intro xE (And.intro xK z0))))
    clear q h hX hr b0 xE xK hbt z0
    go_enter_defers Try.func17, Try.ntmps17
    go_wp2_with fail
    refine Calls.mono HQ.out.1 ?_
    rintro e w1 ⟨q0, s0, s1, s2, q2, q3, t0, t1, t2, rfl, hn1, hi1, hf1⟩
    have hE1 := hf1.at HQ.out.2.2.2.1 (by omega)
    have hK1 := hf1.at HQ.out.2.2.2.2.1 (by omega)
    have hff := (Fro.below (O := fun j => j = P) HQ.out.2.2.1).trans hf1
    have hz1 : w.heap.size + 2 ≤ w1.heap.size := by have := hf1.size; rw [HQ.out.2.2.2.2.2] at this; exact this
    have hO1 : ∀ g, Nw (w2a w) w1 g → w.heap.size + 1 < g ∧ g < w1.heap.size := fun g hg => ⟨by have := hg.1; rw [HQ.out.2.2.2.2.2] at this; omega, hg.2⟩
    obtain ⟨⟨y0, y1, y2, y3, y4⟩, g0, g1, g2, g3, g4⟩ := cells5 hE1
    have H1 : Hid _ := And.intro hn1 (And.intro hi1 (And.intro hff (And.intro hE1 (And.intro hK1 hO1))))
    have hX := HQ.out.2.1
    clear hn1 hi1 hff hE1 hK1 hf1 hO1 HQ
    go_upto_region 3 with fail
    obtain ⟨V, hV⟩ : ∃ V, put5 w1 w.heap.size (.int .i64 q0) (.slice s0 s1 s2) (.int .i64 q2) (.int .i64 q3) (.slice t0 t1 t2) = V := ⟨_, rfl⟩
    have va := put5_at H1.out.2.2.2.1 (.int .i64 q0) (.slice s0 s1 s2) (.int .i64 q2) (.int .i64 q3) (.slice t0 t1 t2)
    have vk := put5_blk w1 w.heap.size (.int .i64 q0) (.slice s0 s1 s2) (.int .i64 q2) (.int .i64 q3) (.slice t0 t1 t2)
    have vs := put5_size w1 w.heap.size (.int .i64 q0) (.slice s0 s1 s2) (.int .i64 q2) (.int .i64 q3) (.slice t0 t1 t2)
    have vf := put5_fro H1.out.2.2.1 (.inr (Nat.le_refl _)) (.int .i64 q0) (.slice s0 s1 s2) (.int .i64 q2) (.int .i64 q3) (.slice t0 t1 t2)
    have vi := in_put5 H1.out.2.1 hPw (.int .i64 q0) (.slice s0 s1 s2) (.int .i64 q2) (.int .i64 q3) (.slice t0 t1 t2)
    rw [hV] at va vk vs vf vi
    simp only [put5] at hV
    rw [hV]
    clear hV y0 y1 y2 y3 y4 g0 g1 g2 g3 g4
    have hKV := (vk (w.heap.size + 1) (by omega)).trans H1.out.2.2.2.2.1
    have hnV : NdV (fun g => w.heap.size + 1 < g ∧ g < V.heap.size) V x [.int .i64 q0, .slice s0 s1 s2, .int .i64 q2, .int .i64 q3, .slice t0 t1 t2] := H1.out.1.fro (fun g hg => ⟨(H1.out.2.2.2.2.2 g hg).1, by rw [vs]; exact (H1.out.2.2.2.2.2 g hg).2⟩) (by omega) (fun g hg _ => vk g (by have := (H1.out.2.2.2.2.2 g hg).1; omega))
    have qe := ended_p vi
    have H2 : Hid _ := And.intro va (And.intro hKV (And.intro vf (And.intro vi hnV)))
    clear va vk vf vi hKV hnV H1
    by_cases hkl : k1 = l.length
    · rw [if_pos hkl] at hX
      rw [decide_eq_true hkl] at qe
      have H3 : Hid _ := And.intro qe hX
      clear qe hX hkl
      go_wp2_with fail
      refine Calls.mono H3.out.1 ?_
      rintro e w2 ⟨rfl, m, hw⟩
      have hb := bel_of hw
      have hE2 := (hb.block _ (lt_of H2.out.1)).trans H2.out.1
      have hK2 := (hb.block _ (lt_of H2.out.2.1)).trans H2.out.2.1
      have hn2 := H2.out.2.2.2.2.fro (O' := fun g => w.heap.size + 1 < g ∧ g < w2.heap.size) (fun g hg => ⟨hg.1, by have := hb.size; have := hg.2; omega⟩) hb.size (fun g _ hgs => hb.block g hgs)
      obtain ⟨⟨y0, y1, y2, y3, y4⟩, g0, g1, g2, g3, g4⟩ := cells5 hE2
      obtain ⟨⟨z0, z1⟩, zf0, zf1⟩ := blk2 hK2
      have H4 : Hid _ := And.intro hE2 (And.intro hK2 (And.intro hn2 (H2.out.2.2.1.trans (fro_of hw))))
      clear hb hE2 hK2 hn2 hw H2
      go_wp2_with fail
      obtain ⟨V2, hV2⟩ : ∃ V2, put5 w2 w.heap.size (.int .i64 q0) (.slice s0 s1 s2) (.int .i64 q2) (.int .i64 q3) (.slice t0 t1 t2) = V2 := ⟨_, rfl⟩
      have va := put5_at H4.out.1 (.int .i64 q0) (.slice s0 s1 s2) (.int .i64 q2) (.int .i64 q3) (.slice t0 t1 t2)
      have vk := put5_blk w2 w.heap.size (.int .i64 q0) (.slice s0 s1 s2) (.int .i64 q2) (.int .i64 q3) (.slice t0 t1 t2)
      have vs2 := put5_size w2 w.heap.size (.int .i64 q0) (.slice s0 s1 s2) (.int .i64 q2) (.int .i64 q3) (.slice t0 t1 t2)
      have vf := put5_fro H4.out.2.2.2 (.inr (Nat.le_refl _)) (.int .i64 q0) (.slice s0 s1 s2) (.int .i64 q2) (.int .i64 q3) (.slice t0 t1 t2)
      rw [hV2] at va vk vs2 vf
      simp only [put5] at hV2
      rw [hV2]
      clear hV2 y0 y1 y2 y3 y4 g0 g1 g2 g3 g4 z0 z1 zf0 zf1
      have hKV := (vk (w.heap.size + 1) (by omega)).trans H4.out.2.1
      have h3 := bset (i := 0) hKV (.int .i64 0)
      have h4 := bset (i := 1) h3 (.int .i64 0)
      simp only [List.setIfInBounds_toArray, List.set_cons_succ, List.set_cons_zero] at h4
      have hoth : ∀ g, g ≠ w.heap.size + 1 → ((V2.setCell ⟨w.heap.size + 1, 0, none⟩ (.int .i64 0)).setCell ⟨w.heap.size + 1, 1, none⟩ (.int .i64 0)).heap[g]? = V2.heap[g]? := fun g hg => (Below.heap_setCell _ ⟨w.heap.size + 1, 1, none⟩ _ g hg).trans (Below.heap_setCell _ ⟨w.heap.size + 1, 0, none⟩ _ g hg)
      have hsz : ((V2.setCell ⟨w.heap.size + 1, 0, none⟩ (.int .i64 0)).setCell ⟨w.heap.size + 1, 1, none⟩ (.int .i64 0)).heap.size = V2.heap.size := by simp [World.setCell]
      have hfU := (vf.set (i := 0) (X := w.heap.size + 1) (.inr (by omega)) (.int .i64 0)).set (i := 1) (X := w.heap.size + 1) (.inr (by omega)) (.int .i64 0)
      obtain ⟨U, hU⟩ : ∃ U, (V2.setCell ⟨w.heap.size + 1, 0, none⟩ (.int .i64 0)).setCell ⟨w.heap.size + 1, 1, none⟩ (.int .i64 0) = U := ⟨_, rfl⟩
      rw [hU] at h4 hoth hsz hfU ⊢
      clear hU
      have hE5 := (hoth w.heap.size (by omega)).trans va
      have hn5 : NdV (Nw w U) U x [.int .i64 q0, .slice s0 s1 s2, .int .i64 q2, .int .i64 q3, .slice t0 t1 t2] := H4.out.2.2.1.fro (fun g hg => ⟨by have := hg.1; omega, by have := hg.2; omega⟩) (by omega) (fun g hg _ => (hoth g (by have := hg.1; omega)).trans (vk g (by have := hg.1; omega)))
      obtain ⟨⟨y0, y1, y2, y3, y4⟩, _⟩ := cells5 hE5
      obtain ⟨⟨z0, z1⟩, _⟩ := blk2 h4
      refine leaves_cons (f := 35) (args := #[.pointer (some ⟨w.heap.size, 0, none⟩), .pointer (some ⟨w.heap.size + 1, 0, none⟩)]) (by simp) (by simp [go_sem]) ?_
      refine (catch_idle _ _ _).mono ?_
      rintro e u' w6 ⟨rfl, rfl, rfl⟩
      have hfin := wh_ok (P := P) H3.out.2 hn5 hfU
      simp [Leaves, settle, results, Try.results17, go_sem, y0, y1, y2, y3, y4, z0, z1]
      exact hfin
    · rw [if_neg hkl] at hX
      rw [decide_eq_false hkl] at qe
      have H3 : Hid _ := And.intro qe (And.intro hX (fun U => fail_p P (k1 : Int) U))
      clear qe hX hkl
      go_wp2_with fail
      refine Calls.mono H3.out.1 ?_
      rintro e w2 ⟨rfl, m, hw⟩
      have hb := bel_of hw
      have hi2 := H2.out.2.2.2.1.dr hw
      obtain ⟨⟨c0, c1, c2⟩, f0, f1, f2⟩ := cells3 hi2.ps
      have hE2 := (hb.block _ (lt_of H2.out.1)).trans H2.out.1
      have hK2 := (hb.block _ (lt_of H2.out.2.1)).trans H2.out.2.1
      have H4 : Hid _ := And.intro hE2 (And.intro hK2 (H2.out.2.2.1.trans (fro_of hw)))
      clear hb hE2 hK2 hw H2 hi2
      go_wp2_with fail
      refine Calls.mono (H3.out.2.2 _) ?_
      rintro e w3 ⟨rfl, hw⟩
      subst hw
      refine leaves_cons (f := 35) (args := #[.pointer (some ⟨w.heap.size, 0, none⟩), .pointer (some ⟨w.heap.size + 1, 0, none⟩)]) (by simp) (by simp [go_sem]) ?_
      refine (catch_panic H4.out.1 H4.out.2.1 (by omega)).mono ?_
      rintro e u' w6 ⟨rfl, rfl, hC⟩
      obtain ⟨⟨y0, y1, y2, y3, y4⟩, _⟩ := cells5 hC.e
      obtain ⟨⟨z0, z1⟩, _⟩ := blk2 hC.k
      have hfin := wh_bad H3.out.2.1 (fro_new H4.out.2.2 hC.fro (Nat.le_refl _) (by omega))
      simp [Leaves, settle, results, Try.results17, go_sem, y0, y1, y2, y3, y4, z0, z1]
      exact hfin
end Go.Proofs.Ythlkbijpphdblaa
