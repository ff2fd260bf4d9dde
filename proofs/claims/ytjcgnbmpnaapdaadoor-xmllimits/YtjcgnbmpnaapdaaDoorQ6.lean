/- The contracts of begin, and of put into the text. -/
import Derived.Test.YtjcgnbmpnaapdaaDoorTell
import Derived.Test.YtjcgnbmpnaapdaaDoorQ5
namespace Go.Proofs.YtjcgnbmpnaapdaaDoor
open Go.RowKit
set_option linter.unusedVariables false

theorem Full.tneb {B P : Nat} {w : World} {v : PV} {l : Bs} {L : Lm} {s : S} (h : Full B P w v l L s) : v.tout.ownBlock = none ∨ v.tout.ownBlock ≠ v.b.ownBlock := by
  cases ht : v.tout.ownBlock with
  | none => exact .inl rfl
  | some k =>
    right
    intro e
    have h1 := (h.to.lt k ht).1
    have h2 := h.gb k e.symm
    omega
theorem Full.same {B P : Nat} {w : World} {v v' : PV} {l : Bs} {L : Lm} {s s' : S} (h : Full B P w v l L s) (hs : s = s') (hv : v = v') : Full B P w v' l L s' := by subst hs; subst hv; exact h
theorem Fr.refl (P : Nat) (w : World) (v : PV) : Fr P w w v v := ⟨rfl, rfl, rfl, Nat.le_refl _, fun _ _ _ _ _ _ => rfl, fun _ e => .inl e, fun _ e => .inl e, fun _ e => .inl e⟩
set_option maxHeartbeats 800000 in
theorem begin_s {B P : Nat} {w : World} {v : PV} {l : Bs} {L : Lm} {s : S} (at0 : Int) (h : Full B P w v l L s) :
    Calls Tryd.prog 43 #[pp P, .int .i64 at0] w fun e w' => e = .returned (.tuple #[]) ∧ ∃ v', Full B P w' v' l L (beginS s at0) ∧ Fr P w w' v v' := by
  have c11 : w.cell? ⟨P, 11, none⟩ = some (.bool v.begun) := h.inn.ps.cell 11
  have f11 := h.inn.ps.froz 11
  have c12 : w.cell? ⟨P, 12, none⟩ = some (.int .i64 v.tat) := h.inn.ps.cell 12
  have f12 := h.inn.ps.froz 12
  have c13 : w.cell? ⟨P, 13, none⟩ = some v.tout := h.inn.ps.cell 13
  have f13 := h.inn.ps.froz 13
  have HH : Hid _ := And.intro h (h.text3 true at0)
  have HB : Hid _ := h.bg
  cases hb : s.begun
  · have e : v.begun = false := by rw [h.bg, hb]
    rw [e] at c11
    have HS : Hid (beginS s at0 = { s with begun := true, tat := at0, tout := [] }) := by unfold beginS; rw [hb]; rfl
    clear h e hb
    go_enter Tryd.func43, Tryd.ntmps43
    go_wp2
    go_end0
    rw [HS.out]
    exact ⟨rfl, _, HH.out.2.1, HH.out.2.2⟩
  · have e : v.begun = true := by rw [h.bg, hb]
    rw [e] at c11
    have HS : Hid (beginS s at0 = s) := by unfold beginS; rw [if_pos hb]; exact rfl
    clear h e hb
    go_enter Tryd.func43, Tryd.ntmps43
    go_wp2
    go_end0
    rw [HS.out]
    exact ⟨rfl, _, HH.out.1, Fr.refl _ _ _⟩
theorem put_t {B P : Nat} {w : World} {v : PV} {l : Bs} {L : Lm} {s : S} {r : Int} (h : Full B P w v l L s) (hr : isChar r = true) :
    Calls Tryd.prog 44 #[pp P, .pointer (some ⟨P, 11, none⟩), .int .i32 r] w (Rd B P w v l L (putQ L s r s.k)) := by
  have hT := h.bT
  have htl := h.tl
  have hneP : v.tout.ownBlock ≠ some P := by
    rcases own_ne81 h.inn.ps h.to (by decide) with e | e
    · rw [e]; simp
    · exact e
  refine (put_any (P := P) (O := P) (f := 11) (T := v.t) (at0 := v.tat) (h.inn.ps.cell 13) (h.inn.ps.froz 13) (h.inn.ps.cell 12) (h.inn.ps.cell 6) h.to h.sz (by omega) hneP hneP hr (by rintro ⟨_, e⟩; simp at e)).mono ?_
  rintro e w' ⟨rfl, ov', w3, m, hg3, ho3, hnn, hnb, rfl⟩
  have hps3 : PS w3 P v := h.inn.ps.kept hg3 (fun e => hneP e.symm)
  have hg4 := grownBy_set w3 P 13 ov'
  have hfr : Fr P w ((w3.setCell ⟨P, 13, none⟩ ov').drewN m) v { v with tout := ov' } := by
    refine ⟨hg4.os.trans hg3.os, hg4.tape.trans hg3.tape, hg4.output.trans hg3.output, Nat.le_trans hg3.size hg4.size, ?_, hnb, fun _ e => .inl e, fun _ e => .inl e⟩
    intro k hk1 n1 n2 n3 n4
    show (w3.setCell ⟨P, 13, none⟩ ov').heap[k]? = _
    rw [hg4.block k (Nat.lt_of_lt_of_le hk1 hg3.size) (by simpa using n1), hg3.block k hk1 n2]
  by_cases hbig : L.T < ((s.tout ++ enc r).length : Int)
  · have e1 : putQ L s r s.k = .bad s.tat 3 := by unfold putQ putS; rw [if_pos hbig]; rfl
    rw [e1]
    refine ⟨?_, { v with tout := ov' }, hps3.set 13 _ rfl, rfl, hfr⟩
    unfold putE
    rw [h.lt', if_pos hbig, h.ta]
  · have e1 : putQ L s r s.k = .go { s with tout := s.tout ++ enc r } := by unfold putQ putS; rw [if_neg hbig]; rfl
    rw [e1]
    have hF := (h.toutv hg3 ho3 (app_bd h.tb (enc_bd r)) (by omega) hnb h.tneb).1
    refine ⟨?_, { v with tout := ov' }, ?_, hfr⟩
    · unfold putE
      rw [h.lt', if_neg hbig]
    · obtain ⟨xs, r1, r2⟩ := hF.rd
      exact ⟨hF.inn.drewN m, hF.pb, hF.gb, hF.sz, hF.ld, hF.lN, hF.la, hF.lt', hF.bD, hF.bA, hF.bT, hF.lg, hF.op, hF.opl, hF.nd, hF.bg, hF.ta, hF.to, hF.tb, hF.tl, ⟨xs, r1, EvC.ky (Ky.of (grownBy_drewN _ m none) (fun g e => by cases e)) r2⟩, hF.rl, hF.ov, hF.fa, hF.fe, hF.bN, hF.nb, hF.ob⟩
end Go.Proofs.YtjcgnbmpnaapdaaDoor
