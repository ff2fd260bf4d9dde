/- The contract of attribute. -/
import Derived.Test.YtjcgnbmpnaapdaaDoorAtr
namespace Go.Proofs.YtjcgnbmpnaapdaaDoor
open Go.RowKit
set_option linter.unusedVariables false

theorem Bk.kept {w w' : World} {P X : Nat} {t : TypeId} {cs : Array Value} {v : PV} (h : w.heap[X]? = some (.cells cs t (0, 0))) (ht : t ≠ 81) (hp : PS w P v) (hg : w.grownBy w' (some P)) : w'.heap[X]? = some (.cells cs t (0, 0)) := by
  rw [hg.block X (Array.getElem?_eq_some_iff.1 h).1]
  · exact h
  · intro e
    cases e
    unfold PS at hp
    rw [h] at hp
    simp at hp
    exact ht hp.2
theorem Bk.below {w w' : World} {X : Nat} {o : Obj} (h : w.heap[X]? = some o) (hb : Below w.heap.size w w') : w'.heap[X]? = some o := (hb.block X (Array.getElem?_eq_some_iff.1 h).1).trans h
theorem Bk.belowd {w w' : World} {X m : Nat} {o : Obj} (h : w.heap[X]? = some o) (hb : Below (w.drewN m).heap.size (w.drewN m) w') : w'.heap[X]? = some o := Bk.below (w := w.drewN m) h hb
theorem Bk.set {w : World} {X i : Nat} {t : TypeId} {cs : Array Value} (h : w.heap[X]? = some (.cells cs t (0, 0))) (u : Value) : (w.setCell ⟨X, i, none⟩ u).heap[X]? = some (.cells (cs.setIfInBounds i u) t (0, 0)) := by
  simp only [World.setCell, Array.getElem?_modify]
  rw [if_pos trivial, h]
  simp
theorem Bk.cell {w : World} {X i : Nat} {t : TypeId} {cs : Array Value} (h : w.heap[X]? = some (.cells cs t (0, 0))) : w.cell? ⟨X, i, none⟩ = cs[i]? := by simp [World.cell?, h]
theorem Bk.froz {w : World} {X i : Nat} {t : TypeId} {cs : Array Value} (h : w.heap[X]? = some (.cells cs t (0, 0))) : w.frozen? ⟨X, i, none⟩ = false := by simp [World.frozen?, h]
theorem AR.kept' {B P : Nat} {w w' : World} {sv : Value} {l : List At} {v : PV} (h : AR B w sv l) (hp : PS w P v) (hg : w.grownBy w' (some P)) : AR B w' sv l := h.kept hg (own_ne81 hp h (by decide))
def atRet (a : At) : Value := .agg #[.string (sb a.name), .string (sb a.value), .int .i64 a.place]
theorem set_below {w : World} {B X i : Nat} (h : B ≤ X) (u : Value) : Below B w (w.setCell ⟨X, i, none⟩ u) := (Below.refl B w).setCell h u
theorem own_set {w : World} {B X i n size : Nat} {e : TypeId} {sv : Value} {xs : List Value} (h : w.ownsRow B e size sv n xs) (hne : sv.ownBlock ≠ some X) (u : Value) : (w.setCell ⟨X, i, none⟩ u).ownsRow B e size sv n xs := h.kept (grownBy_set w X i u) (.inr hne)

theorem sub_bd {l : Bs} {k j : Nat} (h : ∀ i, 0 ≤ l.getD i 0 ∧ l.getD i 0 < 256) : ∀ i, 0 ≤ (sub l k j).getD i 0 ∧ (sub l k j).getD i 0 < 256 := by
  intro i
  rcases Nat.lt_or_ge i (j - k) with hi | hi
  · rw [sub_at hi]; exact h _
  · have : (sub l k j).getD i 0 = 0 := by
      unfold sub
      simp [List.getD_eq_getElem?_getD]
      rw [List.getElem?_eq_none (by simp; omega)]
      rfl
    rw [this]; omega
theorem nameS_ok {l : Bs} {T : Int} {k j : Nat} {nm : Bs} (h : nameS l T k = .ok nm j) : nm = sub l k j ∧ okl l k = true ∧ isStart (lt l k) = true := by
  unfold nameS at h
  split at h
  · rename_i hh
    obtain ⟨_, j', h1, h2⟩ := bind_inv h
    cases h2
    exact ⟨rfl, hh.1, hh.2⟩
  · cases h
theorem valL_bd {l : Bs} {T at0 q : Int} : ∀ {n : Nat} {out r : Bs} {k k' : Nat}, valL n l T at0 q out k = .ok r k' → (∀ i, 0 ≤ out.getD i 0 ∧ out.getD i 0 < 256) → ∀ i, 0 ≤ r.getD i 0 ∧ r.getD i 0 < 256 := by
  intro n
  induction n with
  | zero => intro out r k k' h ho; rw [valL] at h; cases h
  | succ n ih =>
    intro out r k k' h ho
    rw [valL] at h
    obtain ⟨x, j, h1, h2⟩ := bind_inv h
    split at h2
    · cases h2; exact ho
    split at h2
    · cases h2
    have fin : ∀ {c : Int} {k2 : Nat}, ((putS T at0 out c k2).bind fun o k2 => valL n l T at0 q o k2) = .ok r k' → ∀ i, 0 ≤ r.getD i 0 ∧ r.getD i 0 < 256 := by
      intro c k2 hh
      obtain ⟨o, j2, h5, h6⟩ := bind_inv hh
      unfold putS at h5
      split at h5
      · cases h5
      · cases h5; exact ih h6 (app_bd ho (enc_bd c))
    split at h2
    · obtain ⟨c, j2, h3, h4⟩ := bind_inv h2; exact fin h4
    split at h2
    · obtain ⟨c, j2, h3, h4⟩ := bind_inv h2; exact fin h4
    · obtain ⟨c, j2, h3, h4⟩ := bind_inv h2; exact fin h4
theorem attrS_ok {l : Bs} {T : Int} {ahead : List At} {k k' : Nat} {a : At} (hl : ∀ i, 0 ≤ l.getD i 0 ∧ l.getD i 0 < 256) (h : attrS l T ahead k = .ok a k') : AtOk a := by
  unfold attrS at h
  obtain ⟨nm, k1, h1, h2⟩ := bind_inv h
  obtain ⟨_, _, h3, h4⟩ := bind_inv h2
  split at h4
  · cases h4
  obtain ⟨_, k2, h5, h6⟩ := bind_inv h4
  obtain ⟨vv, k3, h7, h8⟩ := bind_inv h6
  cases h8
  refine ⟨?_, ?_⟩
  · rw [(nameS_ok h1).1]; exact sub_bd hl
  · unfold valueS at h7
    obtain ⟨q, k4, h9, h10⟩ := bind_inv h7
    exact valL_bd h10 bd_nil

set_option maxHeartbeats 1600000 in
theorem attr_s {P k B : Nat} {sv : Value} {ahead : List At} {v : PV} {l : Bs} {w : World} (h : In P w v l k) (hT : 0 ≤ v.t ∧ v.t ≤ 4096) (hAR : AR B w sv ahead) (hok : ∀ a ∈ ahead, AtOk a) (hal : ahead.length ≤ 4096) :
    Calls Tryd.prog 77 #[pp P, sv] w (Scan P w v l atRet (attrS l v.t ahead k)) := by
  have c1 := h.rd
  have hPB : P < w.heap.size := h.ps.lt
  have hgb := h.gb
  have hmf : ∀ (fn : Fn) (first cap : Array Value) (w : World), (Instr.makeFunc fn first cap).run Tryd.prog w = .ok (.func fn first cap) w := fun _ _ _ _ => rfl
  have hR0 : ((w.alloc (.cells #[.string ⟨#[]⟩, .string ⟨#[]⟩, .int .i64 0] 37)).alloc (.cells #[.string ⟨#[]⟩, .string ⟨#[]⟩, .int .i64 k] 37)).heap[w.heap.size]? = some (.cells #[.string ⟨#[]⟩, .string ⟨#[]⟩, .int .i64 0] 37 (0, 0)) := by
    rw [Below.heap_alloc _ _ _ (by simp)]; exact heap_alloc_new w _
  have hA0 : ((w.alloc (.cells #[.string ⟨#[]⟩, .string ⟨#[]⟩, .int .i64 0] 37)).alloc (.cells #[.string ⟨#[]⟩, .string ⟨#[]⟩, .int .i64 k] 37)).heap[w.heap.size + 1]? = some (.cells #[.string ⟨#[]⟩, .string ⟨#[]⟩, .int .i64 k] 37 (0, 0)) := by
    have := heap_alloc_new (w.alloc (.cells #[.string ⟨#[]⟩, .string ⟨#[]⟩, .int .i64 0] 37)) (.cells #[.string ⟨#[]⟩, .string ⟨#[]⟩, .int .i64 k] 37)
    simpa using this
  have h0 := (h.alloc (.cells #[.string ⟨#[]⟩, .string ⟨#[]⟩, .int .i64 0] 37)).alloc (.cells #[.string ⟨#[]⟩, .string ⟨#[]⟩, .int .i64 k] 37)
  have hAR0 : AR B _ sv ahead := (hAR.alloc (.cells #[.string ⟨#[]⟩, .string ⟨#[]⟩, .int .i64 0] 37)).alloc (.cells #[.string ⟨#[]⟩, .string ⟨#[]⟩, .int .i64 k] 37)
  have hg0 : w.grownBy _ (some P) := grownBy_trans (World.grownBy_alloc w (.cells #[.string ⟨#[]⟩, .string ⟨#[]⟩, .int .i64 0] 37) _) (World.grownBy_alloc _ (.cells #[.string ⟨#[]⟩, .string ⟨#[]⟩, .int .i64 k] 37) _)
  have hsvA : sv.ownBlock ≠ some (w.heap.size + 1) := by
    intro e
    have := (hAR.lt _ e).2
    omega
  have cA0 : (#[Value.string ⟨#[]⟩, .string ⟨#[]⟩, .int .i64 k] : Array Value)[0]? = some (.string ⟨#[]⟩) := rfl
  rw [attrS]
  rcases hn : nameS l v.t k with ⟨nm, k1⟩ | ⟨p, er⟩
  · rw [bind_ok]
    have HN : Hid (nameS l v.t k = .ok nm k1) := hn
    clear hn
    have hnm : ∀ i, 0 ≤ nm.getD i 0 ∧ nm.getD i 0 < 256 := by rw [(nameS_ok HN.out).1]; exact sub_bd h.br.2
    cases hok1 : okl l k1
    · rw [peekS_f hok1, bind_bad]
      go_enter Tryd.func77, Tryd.ntmps77
      go_wp2_with (first | (go_at_call 72; refine (scan_ok (name_s h0 ⟨hT.1, by omega⟩) HN.out).mono ?_; rintro e w1 ⟨rfl, hg1, hi1⟩; have hA1 := Bk.kept hA0 (by decide) h0.ps hg1; have hR1 := Bk.kept hR0 (by decide) h0.ps hg1; have cA := Bk.cell (i := 0) hA1; have fA := Bk.froz (i := 0) hA1; simp only [cA0] at cA; have hi2 := hi1.below (set_below (i := 0) (X := w.heap.size + 1) (Nat.le_succ _) (Value.string (sb nm))) hPB hgb; have hA2 : (w1.setCell ⟨w.heap.size + 1, 0, none⟩ (Value.string (sb nm))).heap[w.heap.size + 1]? = some (.cells #[.string (sb nm), .string ⟨#[]⟩, .int .i64 k] 37 (0, 0)) := Bk.set (i := 0) hA1 (Value.string (sb nm)); have hAR1 := hAR0.kept' h0.ps hg1; have hAR2 := own_set (i := 0) hAR1 hsvA (Value.string (sb nm)); have hR2 := (Below.heap_setCell w1 ⟨w.heap.size + 1, 0, none⟩ (Value.string (sb nm)) w.heap.size (by simp)).trans hR1; have hsz1 : w.heap.size ≤ (w1.setCell ⟨w.heap.size + 1, 0, none⟩ (Value.string (sb nm))).heap.size := (by have e1 := hg0.size; have e2 := hg1.size; simp only [World.setCell, Array.size_modify]; omega); have HA2 : Hid _ := hA2; have HR2 : Hid _ := hR2; have HAR2 : Hid _ := hAR2; clear hA1 hR1 hA2 hR2 hAR1 hAR2) | (go_at_call 40; refine (peek_f hi2 hok1).mono ?_; rintro e w' ⟨rfl, m, rfl⟩))
      exact ⟨rfl, rfl, grown_below (grownBy_trans hg0 hg1) (below_drewN (set_below (Nat.le_succ _) _) m) (Nat.le_refl _), _, hi2.ps⟩
    · rw [peekS_t hok1, bind_ok]
      cases hany : (ahead.any fun a => a.name == nm)
      · rw [if_neg (by simp)]
        have HANY : Hid ((ahead.any fun a => a.name == nm) = false) := hany
        clear hany
        rcases heq : eqS l k1 with ⟨_, k2⟩ | ⟨p, er⟩
        · rw [bind_ok]
          have HEQ : Hid _ := heq
          clear heq
          rcases hvl : valueS l v.t k2 with ⟨vv, k3⟩ | ⟨p, er⟩
          · rw [bind_ok]
            have HVL : Hid _ := hvl
            clear hvl
            go_enter Tryd.func77, Tryd.ntmps77
            go_wp2_with (first | (go_at_call 72; refine (scan_ok (name_s h0 ⟨hT.1, by omega⟩) HN.out).mono ?_; rintro e w1 ⟨rfl, hg1, hi1⟩; have hA1 := Bk.kept hA0 (by decide) h0.ps hg1; have hR1 := Bk.kept hR0 (by decide) h0.ps hg1; have cA := Bk.cell (i := 0) hA1; have fA := Bk.froz (i := 0) hA1; simp only [cA0] at cA; have hi2 := hi1.below (set_below (i := 0) (X := w.heap.size + 1) (Nat.le_succ _) (Value.string (sb nm))) hPB hgb; have hA2 : (w1.setCell ⟨w.heap.size + 1, 0, none⟩ (Value.string (sb nm))).heap[w.heap.size + 1]? = some (.cells #[.string (sb nm), .string ⟨#[]⟩, .int .i64 k] 37 (0, 0)) := Bk.set (i := 0) hA1 (Value.string (sb nm)); have hAR1 := hAR0.kept' h0.ps hg1; have hAR2 := own_set (i := 0) hAR1 hsvA (Value.string (sb nm)); have hR2 := (Below.heap_setCell w1 ⟨w.heap.size + 1, 0, none⟩ (Value.string (sb nm)) w.heap.size (by simp)).trans hR1; have hsz1 : w.heap.size ≤ (w1.setCell ⟨w.heap.size + 1, 0, none⟩ (Value.string (sb nm))).heap.size := (by have e1 := hg0.size; have e2 := hg1.size; simp only [World.setCell, Array.size_modify]; omega); have HA2 : Hid _ := hA2; have HR2 : Hid _ := hR2; have HAR2 : Hid _ := hAR2; clear hA1 hR1 hA2 hR2 hAR1 hAR2) | (go_at_call 40; refine (peek_t hi2 hok1).mono ?_; rintro e w' ⟨rfl, m, rfl⟩) | (go_at_call 89; refine (contains_any (w := (w1.setCell ⟨w.heap.size + 1, 0, none⟩ (Value.string (sb nm))).drewN m) (A := w.heap.size + 1) (nm := nm) (l := ahead) (B := B) (Bk.cell (i := 0) HA2.out) hnm hok HAR2.out hal).mono ?_; rw [HANY.out]; rintro e w3 ⟨rfl, hb3⟩; have hi3 := (hi2.drewN m).below (hb3.mono hsz1) hPB hgb; have hA3 := Bk.belowd HA2.out hb3; have hR3 := Bk.belowd HR2.out hb3; have a23 := Bk.cell (i := 2) hA3; have HA3 : Hid _ := hA3; have HR3 : Hid _ := hR3; clear hA3 hR3; have hgw3 : w.grownBy w3 (some P) := grown_below (grown_below (grownBy_trans hg0 hg1) (below_drewN (set_below (Nat.le_succ _) _) m) (Nat.le_refl _)) (hb3.mono hsz1) (Nat.le_refl _)) | (go_at_call 70; refine (scan_ok (eq_s hi3) HEQ.out).mono ?_; rintro e w4 ⟨rfl, hg4, hi4⟩; have hA4 := Bk.kept HA3.out (by decide) hi3.ps hg4; have hR4 := Bk.kept HR3.out (by decide) hi3.ps hg4; have HA4 : Hid _ := hA4; have HR4 : Hid _ := hR4; clear hA4 hR4) | (go_at_call 91; refine (scan_ok (value_s hi4 hT) HVL.out).mono ?_; rintro e w5 ⟨rfl, hg5, hi5⟩; have hA5 := Bk.kept HA4.out (by decide) hi4.ps hg5; have hR5 := Bk.kept HR4.out (by decide) hi4.ps hg5; have a0 : w5.cell? ⟨w.heap.size + 1, 0, none⟩ = some (.string (sb nm)) := Bk.cell hA5; have a1 : w5.cell? ⟨w.heap.size + 1, 1, none⟩ = some (.string ⟨#[]⟩) := Bk.cell hA5; have a2 : w5.cell? ⟨w.heap.size + 1, 2, none⟩ = some (.int .i64 k) := Bk.cell hA5; have fa := Bk.froz (i := 1) hA5; have r0 : w5.cell? ⟨w.heap.size, 0, none⟩ = some (.string ⟨#[]⟩) := Bk.cell hR5; have r1 : w5.cell? ⟨w.heap.size, 1, none⟩ = some (.string ⟨#[]⟩) := Bk.cell hR5; have r2 : w5.cell? ⟨w.heap.size, 2, none⟩ = some (.int .i64 0) := Bk.cell hR5; have fr0 := Bk.froz (i := 0) hR5; have fr1 := Bk.froz (i := 1) hR5; have fr2 := Bk.froz (i := 2) hR5; clear hA5 hR5))
            refine bodyPost_ret (v := atRet ⟨nm, vv, k⟩) (by simp [results, Tryd.results77, go_sem, atRet, r0, r1, r2]) rfl ⟨rfl, grown_below (grownBy_trans hgw3 (grownBy_trans hg4 hg5)) ?_ (Nat.le_refl _), In.below hi5 ?_ hPB hgb⟩
            all_goals repeat (first | exact Below.refl _ _ | refine Below.setCell ?_ (by simp) _)
          · rw [bind_bad]
            have HVL : Hid _ := hvl
            clear hvl
            go_enter Tryd.func77, Tryd.ntmps77
            go_wp2_with (first | (go_at_call 72; refine (scan_ok (name_s h0 ⟨hT.1, by omega⟩) HN.out).mono ?_; rintro e w1 ⟨rfl, hg1, hi1⟩; have hA1 := Bk.kept hA0 (by decide) h0.ps hg1; have hR1 := Bk.kept hR0 (by decide) h0.ps hg1; have cA := Bk.cell (i := 0) hA1; have fA := Bk.froz (i := 0) hA1; simp only [cA0] at cA; have hi2 := hi1.below (set_below (i := 0) (X := w.heap.size + 1) (Nat.le_succ _) (Value.string (sb nm))) hPB hgb; have hA2 : (w1.setCell ⟨w.heap.size + 1, 0, none⟩ (Value.string (sb nm))).heap[w.heap.size + 1]? = some (.cells #[.string (sb nm), .string ⟨#[]⟩, .int .i64 k] 37 (0, 0)) := Bk.set (i := 0) hA1 (Value.string (sb nm)); have hAR1 := hAR0.kept' h0.ps hg1; have hAR2 := own_set (i := 0) hAR1 hsvA (Value.string (sb nm)); have hR2 := (Below.heap_setCell w1 ⟨w.heap.size + 1, 0, none⟩ (Value.string (sb nm)) w.heap.size (by simp)).trans hR1; have hsz1 : w.heap.size ≤ (w1.setCell ⟨w.heap.size + 1, 0, none⟩ (Value.string (sb nm))).heap.size := (by have e1 := hg0.size; have e2 := hg1.size; simp only [World.setCell, Array.size_modify]; omega); have HA2 : Hid _ := hA2; have HR2 : Hid _ := hR2; have HAR2 : Hid _ := hAR2; clear hA1 hR1 hA2 hR2 hAR1 hAR2) | (go_at_call 40; refine (peek_t hi2 hok1).mono ?_; rintro e w' ⟨rfl, m, rfl⟩) | (go_at_call 89; refine (contains_any (w := (w1.setCell ⟨w.heap.size + 1, 0, none⟩ (Value.string (sb nm))).drewN m) (A := w.heap.size + 1) (nm := nm) (l := ahead) (B := B) (Bk.cell (i := 0) HA2.out) hnm hok HAR2.out hal).mono ?_; rw [HANY.out]; rintro e w3 ⟨rfl, hb3⟩; have hi3 := (hi2.drewN m).below (hb3.mono hsz1) hPB hgb; have hA3 := Bk.belowd HA2.out hb3; have hR3 := Bk.belowd HR2.out hb3; have a23 := Bk.cell (i := 2) hA3; have HA3 : Hid _ := hA3; have HR3 : Hid _ := hR3; clear hA3 hR3; have hgw3 : w.grownBy w3 (some P) := grown_below (grown_below (grownBy_trans hg0 hg1) (below_drewN (set_below (Nat.le_succ _) _) m) (Nat.le_refl _)) (hb3.mono hsz1) (Nat.le_refl _)) | (go_at_call 70; refine (scan_ok (eq_s hi3) HEQ.out).mono ?_; rintro e w4 ⟨rfl, hg4, hi4⟩; have hA4 := Bk.kept HA3.out (by decide) hi3.ps hg4; have hR4 := Bk.kept HR3.out (by decide) hi3.ps hg4; have HA4 : Hid _ := hA4; have HR4 : Hid _ := hR4; clear hA4 hR4) | (go_at_call 91; refine (scan_bad (value_s hi4 hT) HVL.out).mono ?_; rintro e w5 ⟨rfl, hg5, kk, hp⟩))
            exact ⟨rfl, rfl, grownBy_trans hgw3 (grownBy_trans hg4 hg5), kk, hp⟩
        · rw [bind_bad]
          have HEQ : Hid _ := heq
          clear heq
          go_enter Tryd.func77, Tryd.ntmps77
          go_wp2_with (first | (go_at_call 72; refine (scan_ok (name_s h0 ⟨hT.1, by omega⟩) HN.out).mono ?_; rintro e w1 ⟨rfl, hg1, hi1⟩; have hA1 := Bk.kept hA0 (by decide) h0.ps hg1; have hR1 := Bk.kept hR0 (by decide) h0.ps hg1; have cA := Bk.cell (i := 0) hA1; have fA := Bk.froz (i := 0) hA1; simp only [cA0] at cA; have hi2 := hi1.below (set_below (i := 0) (X := w.heap.size + 1) (Nat.le_succ _) (Value.string (sb nm))) hPB hgb; have hA2 : (w1.setCell ⟨w.heap.size + 1, 0, none⟩ (Value.string (sb nm))).heap[w.heap.size + 1]? = some (.cells #[.string (sb nm), .string ⟨#[]⟩, .int .i64 k] 37 (0, 0)) := Bk.set (i := 0) hA1 (Value.string (sb nm)); have hAR1 := hAR0.kept' h0.ps hg1; have hAR2 := own_set (i := 0) hAR1 hsvA (Value.string (sb nm)); have hR2 := (Below.heap_setCell w1 ⟨w.heap.size + 1, 0, none⟩ (Value.string (sb nm)) w.heap.size (by simp)).trans hR1; have hsz1 : w.heap.size ≤ (w1.setCell ⟨w.heap.size + 1, 0, none⟩ (Value.string (sb nm))).heap.size := (by have e1 := hg0.size; have e2 := hg1.size; simp only [World.setCell, Array.size_modify]; omega); have HA2 : Hid _ := hA2; have HR2 : Hid _ := hR2; have HAR2 : Hid _ := hAR2; clear hA1 hR1 hA2 hR2 hAR1 hAR2) | (go_at_call 40; refine (peek_t hi2 hok1).mono ?_; rintro e w' ⟨rfl, m, rfl⟩) | (go_at_call 89; refine (contains_any (w := (w1.setCell ⟨w.heap.size + 1, 0, none⟩ (Value.string (sb nm))).drewN m) (A := w.heap.size + 1) (nm := nm) (l := ahead) (B := B) (Bk.cell (i := 0) HA2.out) hnm hok HAR2.out hal).mono ?_; rw [HANY.out]; rintro e w3 ⟨rfl, hb3⟩; have hi3 := (hi2.drewN m).below (hb3.mono hsz1) hPB hgb; have hA3 := Bk.belowd HA2.out hb3; have hR3 := Bk.belowd HR2.out hb3; have a23 := Bk.cell (i := 2) hA3; have HA3 : Hid _ := hA3; have HR3 : Hid _ := hR3; clear hA3 hR3; have hgw3 : w.grownBy w3 (some P) := grown_below (grown_below (grownBy_trans hg0 hg1) (below_drewN (set_below (Nat.le_succ _) _) m) (Nat.le_refl _)) (hb3.mono hsz1) (Nat.le_refl _)) | (go_at_call 70; refine (scan_bad (eq_s hi3) HEQ.out).mono ?_; rintro e w4 ⟨rfl, hg4, kk, hp⟩))
          exact ⟨rfl, rfl, grownBy_trans hgw3 hg4, kk, hp⟩
      · rw [if_pos rfl]
        have HANY : Hid ((ahead.any fun a => a.name == nm) = true) := hany
        clear hany
        go_enter Tryd.func77, Tryd.ntmps77
        go_wp2_with (first | (go_at_call 72; refine (scan_ok (name_s h0 ⟨hT.1, by omega⟩) HN.out).mono ?_; rintro e w1 ⟨rfl, hg1, hi1⟩; have hA1 := Bk.kept hA0 (by decide) h0.ps hg1; have hR1 := Bk.kept hR0 (by decide) h0.ps hg1; have cA := Bk.cell (i := 0) hA1; have fA := Bk.froz (i := 0) hA1; simp only [cA0] at cA; have hi2 := hi1.below (set_below (i := 0) (X := w.heap.size + 1) (Nat.le_succ _) (Value.string (sb nm))) hPB hgb; have hA2 : (w1.setCell ⟨w.heap.size + 1, 0, none⟩ (Value.string (sb nm))).heap[w.heap.size + 1]? = some (.cells #[.string (sb nm), .string ⟨#[]⟩, .int .i64 k] 37 (0, 0)) := Bk.set (i := 0) hA1 (Value.string (sb nm)); have hAR1 := hAR0.kept' h0.ps hg1; have hAR2 := own_set (i := 0) hAR1 hsvA (Value.string (sb nm)); have hR2 := (Below.heap_setCell w1 ⟨w.heap.size + 1, 0, none⟩ (Value.string (sb nm)) w.heap.size (by simp)).trans hR1; have hsz1 : w.heap.size ≤ (w1.setCell ⟨w.heap.size + 1, 0, none⟩ (Value.string (sb nm))).heap.size := (by have e1 := hg0.size; have e2 := hg1.size; simp only [World.setCell, Array.size_modify]; omega); have HA2 : Hid _ := hA2; have HR2 : Hid _ := hR2; have HAR2 : Hid _ := hAR2; clear hA1 hR1 hA2 hR2 hAR1 hAR2) | (go_at_call 40; refine (peek_t hi2 hok1).mono ?_; rintro e w' ⟨rfl, m, rfl⟩) | (go_at_call 89; refine (contains_any (w := (w1.setCell ⟨w.heap.size + 1, 0, none⟩ (Value.string (sb nm))).drewN m) (A := w.heap.size + 1) (nm := nm) (l := ahead) (B := B) (Bk.cell (i := 0) HA2.out) hnm hok HAR2.out hal).mono ?_; rw [HANY.out]; rintro e w3 ⟨rfl, hb3⟩; have hi3 := (hi2.drewN m).below (hb3.mono hsz1) hPB hgb; have hA3 := Bk.belowd HA2.out hb3; have hR3 := Bk.belowd HR2.out hb3; have a23 := Bk.cell (i := 2) hA3; have HA3 : Hid _ := hA3; have HR3 : Hid _ := hR3; clear hA3 hR3; have hgw3 : w.grownBy w3 (some P) := grown_below (grown_below (grownBy_trans hg0 hg1) (below_drewN (set_below (Nat.le_succ _) _) m) (Nat.le_refl _)) (hb3.mono hsz1) (Nat.le_refl _)) | (go_at_call 47; refine (fail_any _ _ _).mono ?_; rintro e w' ⟨rfl, rfl⟩))
        exact ⟨rfl, rfl, hgw3, _, hi3.ps⟩
  · rw [bind_bad]
    go_enter Tryd.func77, Tryd.ntmps77
    go_wp2_with (first | (go_at_call 72; refine (scan_bad (name_s h0 ⟨hT.1, by omega⟩) hn).mono ?_; rintro e w1 ⟨rfl, hg1, kk, hp⟩))
    exact ⟨rfl, rfl, grownBy_trans hg0 hg1, kk, hp⟩
end Go.Proofs.YtjcgnbmpnaapdaaDoor
