/- Joined: HDtRs4, HDtRs5. -/
import Derived.Test.YtgaegajcejpmdaaGreatDoorHDtRs3
import Derived.Test.YtgaegajcejpmdaaGreatDoorHJ30
namespace Go.Proofs.YtgaegajcejpmdaaGreatDoor.Dt
open Go.RowKit
set_option linter.unusedVariables false

abbrev sp0 : Sp := ⟨0, 0, 0⟩
def PsP (l : List Int) (w : World) (e : Ending) (w' : World) : Prop :=
  Below w.heap.size w w' ∧ e = .returned (.tuple #[spV ((spG sp0 l).getD sp0), .int .i64 (if (spG sp0 l).isSome then 0 else 2)])
theorem put3 {N : Nat} {w W : World} {X : Nat} {o0 o1 o2 : Value} {t : TypeId} (hb : Below N w W) (hX : N ≤ X) (hx : W.heap[X]? = some (.cells #[o0, o1, o2] t (0, 0))) (v0 v1 v2 : Value) :
    ∃ U, (((W.setCell ⟨X, 0, none⟩ v0).setCell ⟨X, 1, none⟩ v1).setCell ⟨X, 2, none⟩ v2) = U ∧ U.heap[X]? = some (.cells #[v0, v1, v2] t (0, 0)) ∧ Below N w U := by
  have x0 := bset (i := 0) hx v0
  simp only [List.setIfInBounds_toArray, List.set_cons_zero] at x0
  have x1 := bset (i := 1) x0 v1
  simp only [List.setIfInBounds_toArray, List.set_cons_zero, List.set_cons_succ] at x1
  have x2 := bset (i := 2) x1 v2
  simp only [List.setIfInBounds_toArray, List.set_cons_zero, List.set_cons_succ] at x2
  exact ⟨_, rfl, x2, ((hb.setCell (p := ⟨X, 0, none⟩) hX v0).setCell (p := ⟨X, 1, none⟩) hX v1).setCell (p := ⟨X, 2, none⟩) hX v2⟩
set_option maxHeartbeats 1000000 in
theorem parseSpan_p (s : ByteArray) (w : World) (hs : s.size ≤ maxLen) : Calls Tryz.prog 61 #[.string s] w (PsP (bl s) w) := by
  obtain ⟨x1, x2, hb0⟩ := box2 w (.cells (spC sp0) 38) (.cells (spC sp0) 38)
  have H0 : Hid _ := And.intro x1 (And.intro x2 hb0)
  clear x1 x2 hb0
  go_enter Tryz.func61, Tryz.ntmps61
  go_wp2_with fail
  generalize hU : ((w.alloc (.cells (spC sp0) 38)).alloc (.cells (spC sp0) 38)) = U at *
  clear hU
  refine Calls.mono (span_m _ _) ?_
  rintro e w1 ⟨b1, rfl, h1⟩
  have H1 : Hid _ := h1
  clear h1
  go_wp2_with fail
  obtain ⟨V, hV⟩ : ∃ V, (w1.alloc (.cells #[fnV (155, #[pt b1])] 138)) = V := ⟨_, rfl⟩
  rw [hV]
  have u1 : Below w1.heap.size w1 V := by rw [← hV]; exact (Below.refl _ _).alloc (Nat.le_refl _) _
  have hVx : V.heap[w1.heap.size]? = some (.cells #[fnV (155, #[pt b1])] 138 (0, 0)) := by rw [← hV]; exact nw_heap _ _
  clear hV
  have u0 := bl_step H1.out.bl u1
  have hDl := lt_of H0.out.2.1
  have hl := H1.out.l
  have hsz := H1.out.bl.size
  have hfc : FCs V (fun k => k = w.heap.size + 1) (StS (w.heap.size + 1)) [(155, #[pt b1])] [fun p l => (spG p l).map fun x => (x, [])] := .cons (fc_span (H1.out.at u1) (by omega)) .nil
  refine Calls.mono (whole_p hfc w1.heap.size hVx (by omega) (by simp) V sp0 s (Fro.refl _ _) ⟨(u0.block _ hDl).trans H0.out.2.1⟩ hs) ?_
  rintro e w2 ⟨b, p, rfl, hfr, hst, hT, hF⟩
  have xR : w2.heap[w.heap.size]? = some (.cells (spC sp0) 38 (0, 0)) := hfr.at ((u0.block _ (lt_of H0.out.1)).trans H0.out.1) (by omega)
  have fr2 : Below w.heap.size w w2 := H0.out.2.2.trans (((Fro.below (O := fun j => j = w.heap.size + 1) u0).trans hfr).toBelow (Nat.le_of_lt (lt_of H0.out.1)) (fun i hi q => by omega))
  have hr : runG [fun (p : Sp) l => (spG p l).map fun x => (x, [])] sp0 (bl s) = (spG sp0 (bl s)).map fun x => (x, []) := by
    simp only [runG]
    cases spG sp0 (bl s) <;> rfl
  rw [hr] at hT hF
  have h1 : b = true → spG sp0 (bl s) = some p := fun q => by
    have := hT q
    cases hg : spG sp0 (bl s) with
    | none => rw [hg] at this; cases this
    | some x => rw [hg] at this; cases this; rfl
  have h0 : b = false → spG sp0 (bl s) = none := fun q => by
    cases hg : spG sp0 (bl s) with
    | none => rfl
    | some x => rw [hg] at hF; exact absurd rfl (hF q (x, []) rfl)
  obtain ⟨r0, r1, r2⟩ := blk3 xR
  have t0 := (cl_at (i := 0) xR rfl).2
  have t1 := (cl_at (i := 1) xR rfl).2
  have t2 := (cl_at (i := 2) xR rfl).2
  obtain ⟨d0, d1, d2⟩ := blk3 hst.x
  have HX : Hid _ := And.intro xR (And.intro fr2 (And.intro h0 h1))
  clear xR fr2 h0 h1 hr hT hF hst hfr hfc u0 u1 hVx H0 H1 hDl hl hsz
  obtain ⟨po, ps, pn⟩ := p
  dsimp only at *
  cases b
  · have HR : Hid _ := HX.out.2.2.1 rfl
    go_wp2_with fail
    obtain ⟨U2, hU2, hx2, hb2⟩ := put3 (X := w.heap.size) HX.out.2.1 (Nat.le_refl _) HX.out.1 (.int .i64 0) (.int .i64 0) (.int .i64 0)
    rw [hU2]
    obtain ⟨q0, q1, q2⟩ := blk3 hx2
    refine bodyPost_ret (v := .tuple #[spV sp0, .int .i64 2]) (by simp [results, Tryz.results61, go_sem, q0, q1, q2]) rfl ⟨hb2, ?_⟩
    rw [HR.out]
    rfl
  · have HR : Hid _ := HX.out.2.2.2 rfl
    go_wp2_with fail
    obtain ⟨U2, hU2, hx2, hb2⟩ := put3 (X := w.heap.size) HX.out.2.1 (Nat.le_refl _) HX.out.1 (.int .i64 po) (.int .i64 ps) (.int .i64 pn)
    rw [hU2]
    obtain ⟨q0, q1, q2⟩ := blk3 hx2
    refine bodyPost_ret (v := .tuple #[spV ⟨po, ps, pn⟩, .int .i64 0]) (by simp [results, Tryz.results61, go_sem, q0, q1, q2]) rfl ⟨hb2, ?_⟩
    rw [HR.out]
    rfl
end Go.Proofs.YtgaegajcejpmdaaGreatDoor.Dt
namespace Go.Proofs.YtgaegajcejpmdaaGreatDoor.Dt
open Go.RowKit
set_option linter.unusedVariables false

theorem wr_id {x : Int} (h0 : -9223372036854775808 ≤ x) (h1 : x ≤ 9223372036854775807) : wr x = x := by unfold wr wrap64; omega
theorem ptG_in {c : Int} {l : List Int} {y : Int × List Int} (h : ptG c l = some y) : 0 ≤ y.1 ∧ y.1 < 1000000000 := by
  unfold ptG at h
  split at h
  · cases h
    exact dvl_bd (dk_le 9 l).2.2 (dk_le 9 l).1
  · cases h
/-- A part, as the program reads it, and as the document's. -/
def Pp {R : Type} (c : Int) (A : Int → Bool → List Int → Option R) (x : List Int) : Option R := match ptG c x with | some y => A y.1 true y.2 | none => A 0 false x
def Qq {R : Type} (c : Int) (A : Int → Bool → List Int → Option R) (x : List Int) : Option R := (ptB c x).bind fun y => A y.1.1 y.1.2 y.2
def Fl {R : Type} (A : List Int → Option R) : Prop := ∀ r, 9 < dgs r → A r = none
theorem ptG_big {c : Int} (hc : isD c = false) {x : List Int} (h : 9 < dgs x) : ptG c x = none := by
  have hk : dk 9 x = 9 := by unfold dk; omega
  unfold ptG
  rw [hk, if_neg (fun q => dig_ne (drop_dig h) hc q.2)]
theorem ptB_big {c : Int} {x : List Int} (h : 9 < dgs x) : ptB c x = none ∨ ptB c x = some ((0, false), x) := by
  unfold ptB
  split
  · exact .inr rfl
  · exact .inl rfl
theorem ptB_small {c : Int} {x : List Int} (h : dgs x ≤ 9) : ptB c x = some (match ptG c x with | some y => ((y.1, true), y.2) | none => ((0, false), x)) := by
  have hk : dk 9 x = dgs x := by unfold dk; omega
  unfold ptB ptG
  rw [hk]
  by_cases h0 : dgs x = 0
  · rw [if_pos (.inl h0), if_neg (by omega)]
  · by_cases h1 : (x.drop (dgs x)).head? = some c
    · rw [if_neg (by simp [h0, h1]), if_neg (by omega), if_pos ⟨by omega, h1⟩]
      simp [List.tail_drop]
    · rw [if_pos (.inr h1), if_neg (fun q => h1 q.2)]
theorem Fl.p {R : Type} {c : Int} (hc : isD c = false) {A : Int → Bool → List Int → Option R} (h : ∀ v b, Fl (A v b)) : Fl (Pp c A) := fun r hr => by
  unfold Pp
  rw [ptG_big hc hr]
  exact h _ _ r hr
theorem pq {R : Type} {c : Int} (hc : isD c = false) {A : Int → Bool → List Int → Option R} (h : ∀ v b, Fl (A v b)) (x : List Int) : Pp c A x = Qq c A x := by
  unfold Pp Qq
  by_cases hx : 9 < dgs x
  · rw [ptG_big hc hx]
    rcases ptB_big (c := c) hx with e | e
    · rw [e]; exact h _ _ x hx
    · rw [e]; rfl
  · rw [ptB_small (by omega), Option.bind_some]
    cases ptG c x <;> rfl
theorem pp_congr {R : Type} {c : Int} {A B : Int → Bool → List Int → Option R} {x : List Int} (h : ∀ v b r, 0 ≤ v → v < 1000000000 → (b = false → r = x) → A v b r = B v b r) : Pp c A x = Pp c B x := by
  unfold Pp
  cases hg : ptG c x with
  | none => exact h 0 false x (by omega) (by omega) (fun _ => rfl)
  | some y => exact h _ _ _ (ptG_in hg).1 (ptG_in hg).2 (fun q => by cases q)
theorem pp_none {R : Type} {c : Int} {A : Int → Bool → List Int → Option R} {x : List Int} (h : ∀ v b r, A v b r = none) : Pp c A x = none := by
  unfold Pp
  cases ptG c x with
  | none => exact h _ _ _
  | some y => exact h _ _ _
theorem run_po {R : Type} {c unit : Int} {gs : List (Gd Sp)} {p : Sp} {x : List Int} {K : Sp × List Int → Option R} (h0 : -1000000000000 ≤ p.o) (h1 : p.o ≤ 1000000000000) (u0 : 0 ≤ unit) (u1 : unit ≤ 86400) : (runG (gPo c unit :: gs) p x).bind K = Pp c (fun v b r => (runG gs { p with o := p.o + v * unit } r).bind K) x := by
  unfold Pp
  simp only [runG, gPo, Option.bind_some]
  cases hg : ptG c x with
  | none => simp
  | some y =>
    have b := ptG_in hg
    have hm : 0 ≤ y.1 * unit ∧ y.1 * unit ≤ 999999999 * 86400 := ⟨Int.mul_nonneg b.1 u0, by
      have p1 : y.1 * unit ≤ 999999999 * unit := Int.mul_le_mul_of_nonneg_right (by omega) u0
      omega⟩
    dsimp only
    rw [wr_id (by omega) (by omega)]
theorem run_ps {R : Type} {c unit : Int} {gs : List (Gd Sp)} {p : Sp} {x : List Int} {K : Sp × List Int → Option R} (h0 : -1000000000000000 ≤ p.s) (h1 : p.s ≤ 1000000000000000) (u0 : 0 ≤ unit) (u1 : unit ≤ 86400) : (runG (gPs c unit :: gs) p x).bind K = Pp c (fun v b r => (runG gs { p with s := p.s + v * unit } r).bind K) x := by
  unfold Pp
  simp only [runG, gPs, Option.bind_some]
  cases hg : ptG c x with
  | none => simp
  | some y =>
    have b := ptG_in hg
    have hm : 0 ≤ y.1 * unit ∧ y.1 * unit ≤ 999999999 * 86400 := ⟨Int.mul_nonneg b.1 u0, by
      have p1 : y.1 * unit ≤ 999999999 * unit := Int.mul_le_mul_of_nonneg_right (by omega) u0
      omega⟩
    dsimp only
    rw [wr_id (by omega) (by omega)]
theorem mk_dig_none {σ : Type} {a : σ} {l : List Int} (h : Dig l) : gMk 83 a l = none := by unfold gMk; rw [if_neg (dig_ne h (by decide))]
/-- Seconds: the last part. -/
theorem last_sc {p : Sp} (h0 : 0 ≤ p.s) (h1 : p.s ≤ 1000000000000000) (hn : p.n = 0) {R : Type} (K : Sp → Option R) {l : List Int} (hl : l ≠ []) : ((lpG p l).bind fun y => if y.2 ≠ [] then none else K y.1) = (scB l).bind fun s => K ⟨p.o, p.s + s.1, s.2⟩ := by
  unfold lpG gL3 scB
  rw [if_neg hl]
  simp only [runG]
  by_cases h9 : 9 < dgs l
  · rw [if_pos (show dgs l < 1 ∨ 9 < dgs l from .inr h9)]
    have hk : dk 9 l = 9 := by unfold dk; omega
    have hd := drop_dig h9
    rw [hk, if_pos (by omega)]
    have hfr : frG (l.drop 9) = some (none, l.drop 9) := by unfold frG; rw [if_neg (dig_ne hd (by decide))]
    simp only [Option.bind_some, hfr, Option.map_some, mk_dig_none hd]
    rfl
  · have hk : dk 9 l = dgs l := by unfold dk; omega
    rw [hk]
    by_cases hz : dgs l = 0
    · rw [if_neg (show ¬ 0 < dgs l by omega), if_pos (show dgs l < 1 ∨ 9 < dgs l from .inl (by omega))]
      rfl
    · rw [if_pos (show 0 < dgs l by omega), if_neg (show ¬ (dgs l < 1 ∨ 9 < dgs l) by omega)]
      have hnm : nmB (dgs l) l = some (dvl (l.take (dgs l)), l.drop (dgs l)) := by unfold nmB; rw [if_neg (by omega)]
      have hb := dvl_bd (l := l) (j := dgs l) (Nat.le_refl _) (by omega)
      rw [hnm]
      simp only [Option.bind_some]
      generalize l.drop (dgs l) = r
      generalize dvl (l.take (dgs l)) = V at *
      unfold frG frB
      by_cases h46 : r.head? = some 46
      · rw [if_pos h46, if_pos h46]
        by_cases hf9 : 9 < dgs r.tail
        · have hk2 : dk 9 r.tail = 9 := by unfold dk; omega
          have hd2 := drop_dig hf9
          rw [hk2, if_neg (show ¬ (9 : Nat) = 0 by omega), if_pos (show dgs r.tail < 1 ∨ 9 < dgs r.tail from .inr hf9)]
          simp only [Option.map_some, Option.bind_some, mk_dig_none hd2]
          rfl
        · have hk2 : dk 9 r.tail = dgs r.tail := by unfold dk; omega
          rw [hk2]
          by_cases hf0 : dgs r.tail = 0
          · rw [if_pos hf0, if_pos (show dgs r.tail < 1 ∨ 9 < dgs r.tail from .inl (by omega))]
            rfl
          · rw [if_neg hf0, if_neg (show ¬ (dgs r.tail < 1 ∨ 9 < dgs r.tail) by omega)]
            have hnm2 : nmB (dgs r.tail) r.tail = some (dvl (r.tail.take (dgs r.tail)), r.tail.drop (dgs r.tail)) := by unfold nmB; rw [if_neg (by omega)]
            rw [hnm2]
            simp only [Option.map_some, Option.bind_some]
            unfold gMk tkB
            split
            · simp only [Option.bind_some, Option.map_some]
              rw [wr_id (by omega) (by omega)]
              by_cases he : (r.tail.drop (dgs r.tail)).tail = []
              · rw [if_neg (by simpa using he), if_pos he]; rfl
              · rw [if_pos he, if_neg he]; rfl
            · rfl
      · rw [if_neg h46, if_neg h46]
        simp only [Option.map_some, Option.bind_some]
        unfold gMk tkB
        split
        · simp only [Option.bind_some, Option.map_some]
          rw [wr_id (by omega) (by omega)]
          by_cases he : r.tail = []
          · rw [if_neg (by simpa using he), if_pos he]
            simp [hn]
          · rw [if_pos he, if_neg he]; rfl
        · rfl
/-- Where no T stands ahead of the cut. -/
theorem ix_none : ∀ (l : List Int), ix l = -1 → ∀ c ∈ l, c ≠ 84
  | [], _, c, hc => by cases hc
  | b :: l, h, c, hc => by
    rw [ix] at h
    by_cases h1 : b = 84
    · rw [if_pos h1] at h; omega
    · rw [if_neg h1] at h
      by_cases h2 : ix l = -1
      · rcases List.mem_cons.1 hc with rfl | hc
        · exact h1
        · exact ix_none l h2 c hc
      · rw [if_neg h2] at h; have := ix_bd l; omega
theorem ix_some : ∀ (l : List Int) (k : Nat), ix l = k → (∀ c ∈ l.take k, c ≠ 84) ∧ l = l.take k ++ 84 :: l.drop (k + 1)
  | [], k, h => by simp [ix] at h
  | b :: l, k, h => by
    rw [ix] at h
    by_cases h1 : b = 84
    · rw [if_pos h1] at h
      have : k = 0 := by omega
      subst this
      simp [h1]
    · rw [if_neg h1] at h
      by_cases h2 : ix l = -1
      · rw [if_pos h2] at h; omega
      · rw [if_neg h2] at h
        obtain ⟨j, rfl⟩ : ∃ j, k = j + 1 := ⟨k - 1, by have := ix_bd l; omega⟩
        obtain ⟨a, b'⟩ := ix_some l j (by omega)
        refine ⟨?_, ?_⟩
        · intro c hc
          rw [List.take_succ_cons] at hc
          rcases List.mem_cons.1 hc with rfl | hc
          · exact h1
          · exact a c hc
        · rw [List.take_succ_cons, List.drop_succ_cons, List.cons_append, ← b']
/-- A row that ends, or goes on with a T. -/
def Sfx (S : List Int) : Prop := S = [] ∨ S.head? = some 84
theorem dgs_sfx {x S : List Int} (h : Sfx S) : dgs (x ++ S) = dgs x := by
  induction x with
  | nil =>
    rcases h with rfl | h
    · rfl
    · cases S with
      | nil => rfl
      | cons c S => simp at h; subst h; simp [dgs, isD]
  | cons c x ih =>
    rw [List.cons_append, dgs_cons, dgs_cons, ih]
theorem drop_sfx {x S : List Int} {n : Nat} (hn : n ≤ x.length) : (x ++ S).drop n = x.drop n ++ S := List.drop_append_of_le_length hn
theorem ptB_sfx {c : Int} (hc : c ≠ 84) {x S : List Int} (h : Sfx S) : ptB c (x ++ S) = (ptB c x).map fun y => (y.1, y.2 ++ S) := by
  have hl := dgs_len x
  have hh : ((x ++ S).drop (dgs x)).head? = some c ↔ (x.drop (dgs x)).head? = some c := by
    rw [drop_sfx hl]
    cases hx : x.drop (dgs x) with
    | nil =>
      rw [List.nil_append]
      rcases h with rfl | h
      · exact Iff.rfl
      · rw [h]; simp; exact fun e => hc e.symm
    | cons b r => simp
  unfold ptB
  rw [dgs_sfx h]
  by_cases h0 : dgs x = 0 ∨ (x.drop (dgs x)).head? ≠ some c
  · have h0' : dgs x = 0 ∨ ((x ++ S).drop (dgs x)).head? ≠ some c := h0.imp id (fun q e => q (hh.1 e))
    rw [if_pos h0, if_pos h0']
    rfl
  · have h0' : ¬ (dgs x = 0 ∨ ((x ++ S).drop (dgs x)).head? ≠ some c) := fun q => h0 (q.imp id (fun q e => q (hh.2 e)))
    rw [if_neg h0, if_neg h0']
    by_cases h9 : 9 < dgs x
    · rw [if_pos h9, if_pos h9]; rfl
    · rw [if_neg h9, if_neg h9]
      have hlt : dgs x < x.length := by
        by_cases e : dgs x = x.length
        · exfalso; apply h0; right; rw [e, List.drop_length]; simp
        · omega
      rw [Option.map_some, List.take_append_of_le_length hl, drop_sfx (by omega)]
/-- The rests are without a T too. -/
theorem ptB_mem {c : Int} {x : List Int} {y : (Int × Bool) × List Int} (h : ptB c x = some y) : (∀ d ∈ y.2, d ∈ x) ∧ (y.1.2 = false → y.2 = x) := by
  unfold ptB at h
  split at h
  · cases h; exact ⟨fun d hd => hd, fun _ => rfl⟩
  · split at h
    · cases h
    · cases h; exact ⟨fun d hd => List.mem_of_mem_drop hd, fun q => by cases q⟩
/-- The end of a span's text. -/
def Tm (td : Bool) (tl : List Int) (any : Bool) : Option (Int × Int) := if td = true then tmB tl else if any = true then some (0, 0) else none
def Ee (td : Bool) (tl : List Int) (N : Int → Int → Int → Int × Int → Sp) (any : Bool) (r : List Int) (y o d : Int) : Option Sp := if r ≠ [] then none else (Tm td tl any).map (N y o d)
theorem Ee_fl (td : Bool) (tl : List Int) (N : Int → Int → Int → Int × Int → Sp) (any : Bool) (y o d : Int) : Fl (fun r => Ee td tl N any r y o d) := fun r hr => by
  have hn : r ≠ [] := by rintro rfl; simp [dgs] at hr
  show Ee td tl N any r y o d = none
  unfold Ee
  rw [if_pos hn]
theorem tm_eq {tl : List Int} : tmB tl = Pp 72 (fun h b r => Pp 77 (fun m b' r' => if r' = [] then (if b || b' then some (3600 * h + 60 * m, 0) else none) else (scB r').map fun s => (3600 * h + 60 * m + s.1, s.2)) r) tl := by
  have fl : ∀ (h : Int) (b : Bool) (v : Int) (b' : Bool), Fl (fun r' : List Int => if r' = [] then (if b || b' then some (3600 * h + 60 * v, (0 : Int)) else none) else (scB r').map fun s => (3600 * h + 60 * v + s.1, s.2)) := by
    intro h b v b' r hr
    have hn : r ≠ [] := by rintro rfl; simp [dgs] at hr
    dsimp only
    rw [if_neg hn]
    unfold scB
    rw [if_pos (.inr hr)]
    rfl
  have e : (fun (h : Int) (b : Bool) (r : List Int) => Pp 77 (fun m b' r' => if r' = [] then (if b || b' then some (3600 * h + 60 * m, (0 : Int)) else none) else (scB r').map fun s => (3600 * h + 60 * m + s.1, s.2)) r) = fun h b r => Qq 77 (fun m b' r' => if r' = [] then (if b || b' then some (3600 * h + 60 * m, (0 : Int)) else none) else (scB r').map fun s => (3600 * h + 60 * m + s.1, s.2)) r := by
    funext h b r
    exact pq (by decide) (fl h b) r
  rw [pq (by decide) (fun h b => Fl.p (by decide) (fl h b)), e]
  unfold tmB Qq
  refine obind fun h _ => obind fun m _ => ?_
  rfl
/-- The program's end, with the span so far. -/
theorem tail_eq {p : Sp} (p0 : 0 ≤ p.s) (p1 : p.s ≤ 100000000000000) (pn : p.n = 0) (K : Sp → Option Sp) {td : Bool} {tl : List Int} (h0 : td = false → tl = []) (h1 : td = true → tl ≠ []) {any : Bool} (ha : td = false → any = true) :
    ((runG gsT p tl).bind fun y => if y.2 ≠ [] then none else K y.1) = (Tm td tl any).bind fun t => K ⟨p.o, p.s + t.1, t.2⟩ := by
  cases td with
  | false =>
    rw [h0 rfl]
    unfold Tm
    rw [if_neg (by simp), if_pos (ha rfl)]
    have hp : ∀ c, ptG c [] = none := fun c => by simp [ptG, dk, dgs]
    simp only [gsT, runG, gPs, hp, Option.bind_some, lpG, if_true]
    rw [if_neg (by simp), Int.add_zero]
    congr 1
    cases p
    simp at pn
    subst pn
    rfl
  | true =>
    unfold Tm
    rw [if_pos rfl, tm_eq]
    unfold gsT
    rw [run_ps (by omega) (by omega) (by omega) (by omega)]
    have hbind : ∀ {R R' : Type} {c : Int} {A : Int → Bool → List Int → Option R} {x : List Int} {F : R → Option R'}, (Pp c A x).bind F = Pp c (fun v b r => (A v b r).bind F) x := by
      intro R R' c A x F
      unfold Pp
      cases ptG c x <;> rfl
    rw [hbind]
    refine pp_congr fun h b r hh0 hh1 hb => ?_
    rw [run_ps (by dsimp only; omega) (by dsimp only; omega) (by omega) (by omega), hbind]
    refine pp_congr fun m b' r' hm0 hm1 hb' => ?_
    have hs : p.s + h * 3600 + m * 60 = p.s + (3600 * h + 60 * m) := by omega
    dsimp only
    by_cases hr : r' = []
    · subst hr
      rw [if_pos rfl]
      have hany : (b || b') = true := by
        cases b with
        | true => rfl
        | false =>
          cases b' with
          | true => rfl
          | false => exact absurd ((hb rfl).symm.trans (hb' rfl).symm) (h1 rfl)
      rw [if_pos hany, Option.bind_some]
      simp only [runG, lpG, if_true, Option.bind_some]
      rw [if_neg (by simp), hs]
      congr 1
      cases p
      simp at pn
      subst pn
      rfl
    · rw [if_neg hr]
      simp only [runG, Option.bind_assoc, Option.bind_some]
      have := last_sc (p := { p with s := p.s + h * 3600 + m * 60 }) (by dsimp only; omega) (by dsimp only; omega) pn K hr
      refine this.trans ?_
      cases scB r' with
      | none => rfl
      | some sc =>
        simp only [Option.map_some, Option.bind_some]
        rw [hs, Int.add_assoc]
theorem pt_in {c : Int} {l : List Int} {y : (Int × Bool) × List Int} (h : ptB c l = some y) : 0 ≤ y.1.1 ∧ y.1.1 < 1000000000 := by
  unfold ptB at h
  split at h
  · cases h; simp
  · split at h
    · cases h
    · cases h
      exact dvl_bd (Nat.le_refl _) (by omega)
theorem sc_in {l : List Int} {s : Int × Int} (h : scB l = some s) : 0 ≤ s.1 ∧ s.1 < 1000000000 ∧ 0 ≤ s.2 ∧ s.2 < 1000000000 := by
  unfold scB at h
  split at h
  · cases h
  · rename_i hd
    obtain ⟨a, ha, h⟩ := Option.bind_eq_some_iff.1 h
    obtain ⟨f, hf, h⟩ := Option.bind_eq_some_iff.1 h
    obtain ⟨r, _, h⟩ := Option.bind_eq_some_iff.1 h
    have b1 : 0 ≤ a.1 ∧ a.1 < 1000000000 := by
      unfold nmB at ha
      rw [if_neg (by omega)] at ha
      cases ha
      exact dvl_bd (Nat.le_refl _) (by omega)
    have b2 := fr_in hf
    split at h
    · cases h
      exact ⟨b1.1, b1.2, b2.1, b2.2⟩
    · cases h
theorem tm_in {l : List Int} {t : Int × Int} (h : tmB l = some t) : 0 ≤ t.1 ∧ t.1 ≤ 100000000000000 ∧ 0 ≤ t.2 ∧ t.2 < 1000000000 := by
  unfold tmB at h
  obtain ⟨a, ha, h⟩ := Option.bind_eq_some_iff.1 h
  obtain ⟨m, hm, h⟩ := Option.bind_eq_some_iff.1 h
  have b1 := pt_in ha
  have b2 := pt_in hm
  split at h
  · split at h
    · cases h; dsimp only; omega
    · cases h
  · obtain ⟨sc, hs, rfl⟩ := Option.map_eq_some_iff.1 h
    have b3 := sc_in hs
    dsimp only
    omega
theorem sp_eq (l : List Int) : spG sp0 l = prP l := by
  unfold spG prP
  have e1 : (if l.head? = some 45 then l.tail else l) = sgB l := rfl
  simp only [e1]
  generalize sgB l = s1
  by_cases hP : s1.head? = some 80
  · have e2 : tkB 80 s1 = some (spP s1) := by unfold tkB spP; rw [if_pos hP, if_pos hP]
    rw [e2, Option.bind_some]
    generalize spP s1 = l2
    -- the cut
    obtain ⟨dl, tl, td, hct, hl2, hdl, htd⟩ : ∃ dl tl td, ctB l2 = (dl, tl, td) ∧ l2 = dl ++ (if td = true then 84 :: tl else []) ∧ (∀ c ∈ dl, c ≠ 84) ∧ (td = false → tl = []) := by
      unfold ctB
      by_cases h : ix l2 = -1
      · rw [if_pos h]
        exact ⟨l2, [], false, rfl, by simp, ix_none l2 h, fun _ => rfl⟩
      · rw [if_neg h]
        obtain ⟨k, hk⟩ : ∃ k : Nat, ix l2 = k := ⟨(ix l2).toNat, by have := ix_bd l2; omega⟩
        obtain ⟨a, b⟩ := ix_some l2 k hk
        rw [hk]
        exact ⟨l2.take k, l2.drop (k + 1), true, rfl, by simpa using b, a, fun q => by cases q⟩
    rw [hct]
    dsimp only
    obtain ⟨neg, hneg⟩ : ∃ neg : Bool, decide (l.head? = some 45) = neg := ⟨_, rfl⟩
    have hnp : l.head? = some 45 ↔ neg = true := by rw [← hneg]; simp
    rw [hneg]
    obtain ⟨N, hN⟩ : ∃ N : Int → Int → Int → Int × Int → Sp, N = fun y o d t => if neg = true then ⟨-(12 * y + o), -(86400 * d + t.1), -t.2⟩ else ⟨12 * y + o, 86400 * d + t.1, t.2⟩ := ⟨_, rfl⟩
    have hS : Sfx (if td = true then 84 :: tl else []) := by
      cases td
      · exact .inl rfl
      · exact .inr rfl
    have hrhs : ((ptB 89 l2).bind fun y => (ptB 77 y.2).bind fun o => (ptB 68 o.2).bind fun d => ((if d.2.head? = some 84 then (tmB d.2.tail) else if d.2 = [] ∧ (y.1.2 || o.1.2 || d.1.2) then some (0, 0) else none)).map fun t => if l.head? = some 45 then (⟨-(12 * y.1.1 + o.1.1), -(86400 * d.1.1 + t.1), -t.2⟩ : Sp) else ⟨12 * y.1.1 + o.1.1, 86400 * d.1.1 + t.1, t.2⟩)
        = Pp 89 (fun y b1 r1 => Pp 77 (fun o b2 r2 => Pp 68 (fun d b3 r3 => Ee td tl N (b1 || b2 || b3) r3 y o d) r2) r1) dl := by
      have f3 : ∀ (y o : Int) (b1 b2 : Bool) (d : Int) (b3 : Bool), Fl (fun r3 => Ee td tl N (b1 || b2 || b3) r3 y o d) := fun y o b1 b2 d b3 => Ee_fl td tl N _ y o d
      have f2 : ∀ (y : Int) (b1 : Bool) (o : Int) (b2 : Bool), Fl (fun r2 => Pp 68 (fun d b3 r3 => Ee td tl N (b1 || b2 || b3) r3 y o d) r2) := fun y b1 o b2 => Fl.p (by decide) (f3 y o b1 b2)
      have f1 : ∀ (y : Int) (b1 : Bool), Fl (fun r1 => Pp 77 (fun o b2 r2 => Pp 68 (fun d b3 r3 => Ee td tl N (b1 || b2 || b3) r3 y o d) r2) r1) := fun y b1 => Fl.p (by decide) (f2 y b1)
      rw [pq (by decide) f1]
      unfold Qq
      rw [hl2, ptB_sfx (by decide) hS, Option.bind_map]
      refine obind fun y hy => ?_
      dsimp only [Function.comp]
      rw [pq (c := 77) (by decide) (f2 y.1.1 y.1.2)]
      unfold Qq
      rw [ptB_sfx (by decide) hS, Option.bind_map]
      refine obind fun o ho => ?_
      dsimp only [Function.comp]
      rw [pq (c := 68) (by decide) (f3 y.1.1 o.1.1 y.1.2 o.1.2)]
      unfold Qq
      rw [ptB_sfx (by decide) hS, Option.bind_map]
      refine obind fun d hd => ?_
      dsimp only [Function.comp]
      have hmem : ∀ c ∈ d.2, c ≠ 84 := fun c hc => hdl c ((ptB_mem hy).1 c ((ptB_mem ho).1 c ((ptB_mem hd).1 c hc)))
      have hfun : (fun t : Int × Int => if l.head? = some 45 then (⟨-(12 * y.1.1 + o.1.1), -(86400 * d.1.1 + t.1), -t.2⟩ : Sp) else ⟨12 * y.1.1 + o.1.1, 86400 * d.1.1 + t.1, t.2⟩) = N y.1.1 o.1.1 d.1.1 := by
        rw [hN]
        funext t
        by_cases q : l.head? = some 45
        · dsimp only
          rw [if_pos q, if_pos (hnp.1 q)]
        · dsimp only
          rw [if_neg q, if_neg (fun e => q (hnp.2 e))]
      rw [hfun]
      clear hfun
      unfold Ee Tm
      obtain ⟨dv, dr⟩ := d
      dsimp only at hmem ⊢
      cases dr with
      | cons c r =>
        have hc : c ≠ 84 := hmem c (by simp)
        rw [if_neg (by simpa using hc), if_neg (by simp), if_pos (by simp)]
        rfl
      | nil =>
        rw [if_neg (show ¬ (([] : List Int) ≠ []) by simp)]
        cases td
        · simp
        · simp
    rw [hrhs]
    by_cases hno : l2 = [] ∨ (td = true ∧ tl = [])
    · rw [if_pos (.inr hno)]
      symm
      rcases hno with hno | ⟨h1, h2⟩
      · rw [hno] at hl2
        have hdl0 : dl = [] := by
          cases dl with
          | nil => rfl
          | cons c r => simp at hl2
        have htd0 : td = false := by
          cases td
          · rfl
          · rw [hdl0] at hl2; simp at hl2
        rw [hdl0]
        have hp : ∀ c, ptG c [] = none := fun c => by simp [ptG, dk, dgs]
        simp only [Pp, hp]
        unfold Ee Tm
        rw [htd0]
        simp
      · refine pp_none fun y b1 r1 => pp_none fun o b2 r2 => pp_none fun d b3 r3 => ?_
        unfold Ee Tm
        rw [h1, h2]
        have : tmB [] = none := by decide
        rw [if_pos rfl, this]
        simp
    · rw [if_neg (fun q => q.elim (fun q => q hP) hno)]
      unfold gsD
      rw [run_po (by simp) (by simp) (by omega) (by omega)]
      refine pp_congr fun y b1 r1 hy0 hy1 hb1 => ?_
      rw [run_po (by dsimp only; omega) (by dsimp only; omega) (by omega) (by omega)]
      refine pp_congr fun o b2 r2 ho0 ho1 hb2 => ?_
      rw [run_ps (by simp) (by simp) (by omega) (by omega)]
      refine pp_congr fun d b3 r3 hd0 hd1 hb3 => ?_
      simp only [runG, Option.bind_some]
      unfold Ee
      by_cases hr : r3 = []
      · subst hr
        rw [if_neg (by simp), if_neg (by simp)]
        have hany : td = false → (b1 || b2 || b3) = true := fun q => by
          cases b1 with
          | true => rfl
          | false =>
            cases b2 with
            | true => rfl
            | false =>
              cases b3 with
              | true => rfl
              | false =>
                exfalso
                apply hno
                left
                have e := (hb3 rfl).trans ((hb2 rfl).trans (hb1 rfl))
                rw [hl2, q, ← e]
                rfl
        have := tail_eq (p := ⟨0 + y * 12 + o * 1, 0 + d * 86400, 0⟩) (by dsimp only; omega) (by dsimp only; omega) rfl (fun q => some (ngP neg q)) htd (fun q e => hno (.inr ⟨q, e⟩)) hany
        refine this.trans ?_
        cases ht : Tm td tl (b1 || b2 || b3) with
        | none => rfl
        | some t =>
          have hb : 0 ≤ t.1 ∧ t.1 ≤ 100000000000000 ∧ 0 ≤ t.2 ∧ t.2 < 1000000000 := by
            unfold Tm at ht
            split at ht
            · exact tm_in ht
            · split at ht
              · cases ht; simp
              · cases ht
          simp only [Option.bind_some, Option.map_some]
          rw [hN]
          unfold ngP
          cases neg
          · simp only [Bool.false_eq_true, if_false]
            congr 2 <;> omega
          · simp only [if_true]
            rw [wr_id (by omega) (by omega), wr_id (by omega) (by omega), wr_id (by omega) (by omega)]
            congr 2 <;> omega
      · rw [if_pos hr, if_pos hr]
  · rw [if_pos (.inl hP)]
    have e2 : tkB 80 s1 = none := by unfold tkB; rw [if_neg hP]
    rw [e2]
    rfl
end Go.Proofs.YtgaegajcejpmdaaGreatDoor.Dt
