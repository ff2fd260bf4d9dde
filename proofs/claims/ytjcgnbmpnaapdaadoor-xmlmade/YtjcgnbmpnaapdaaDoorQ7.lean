/- The contract of declared. -/
import Derived.Test.YtjcgnbmpnaapdaaDoorQ4
import Derived.Lib.SlBytesConst
import Derived.Test.YtjcgnbmpnaapdaaDoorTell
import Derived.Test.YtjcgnbmpnaapdaaDoorTel2
import Derived.Deep.DeepCutAuto
namespace Go.Proofs.YtjcgnbmpnaapdaaDoor
open Go.RowKit
set_option linter.unusedVariables false

theorem equal_any {w : World} {v1 v2 : Value} {l1 l2 : Bs} (h1 : (convert 25 9 v1).run Tryd.prog w = .ok (.string (sb l1)) w) (h2 : (convert 25 9 v2).run Tryd.prog w = .ok (.string (sb l2)) w)
    (b1 : ∀ i, 0 ≤ l1.getD i 0 ∧ l1.getD i 0 < 256) (b2 : ∀ i, 0 ≤ l2.getD i 0 ∧ l2.getD i 0 < 256) : Calls Tryd.prog 68 #[v1, v2] w fun e w' => e = .returned (.bool (l1 == l2)) ∧ w' = w := by
  have HB : Hid _ := sb_beq b1 b2
  go_enter Tryd.func68, Tryd.ntmps68
  go_wp2
  go_ret
  exact ⟨ret_bool HB.out, rfl⟩
/-- A constant row of bytes, as it is laid. -/
def cw (w : World) (l : Bs) : World := w.alloc (.cells (l.map (Value.int .u8)).toArray 5 (l.length, l.length + 1))
theorem cw_below (w : World) (l : Bs) : Below w.heap.size w (cw w l) := (Below.refl _ _).alloc (Nat.le_refl _) _
theorem cw_bts (w : World) (l : Bs) (hl : ∀ i, 0 ≤ l.getD i 0 ∧ l.getD i 0 < 256) : Bts (cw w l) (some ⟨w.heap.size, 0, none⟩) l := by
  refine ⟨hl, .inr ⟨_, _, rfl, fun i hi => ?_⟩⟩
  rw [Nat.zero_add]
  refine (World.cell?_alloc_mark w (l.map (Value.int .u8)).toArray 5 (l.length, l.length + 1) i).trans ?_
  simp [List.getD_eq_getElem?_getD, hi]
theorem pre_bd : ∀ i, 0 ≤ ([60, 63, 120, 109, 108] : Bs).getD i 0 ∧ ([60, 63, 120, 109, 108] : Bs).getD i 0 < 256 := by
  intro i
  match i with
  | 0 => decide
  | 1 => decide
  | 2 => decide
  | 3 => decide
  | 4 => decide
  | n + 5 => simp
abbrev EqC (g cap N : Nat) (w : World) (b : Bool) : Prop := Calls Tryd.prog 68 #[.slice (some ⟨g, 0, none⟩) 5 cap, .slice (some ⟨N, 0, none⟩) 5 5] w fun e w' => e = .returned (.bool b) ∧ w' = w
set_option maxRecDepth 20000 in
theorem hasP_any {g cap N n : Nat} {w : World} {b : Bool} (hE : EqC g cap N w b) (h5 : 5 ≤ n) (hc : n ≤ cap) (hm : cap ≤ 2 ^ 63 - 1) :
    Calls Tryd.prog 69 #[.slice (some ⟨g, 0, none⟩) n cap, .slice (some ⟨N, 0, none⟩) 5 5] w fun e w' => e = .returned (.bool b) ∧ w' = w := by
  have HE : Hid _ := hE
  clear hE
  go_enter Tryd.func69, Tryd.ntmps69
  go_wp2_with (first | (go_at_call 68; refine Calls.mono HE.out ?_; rintro e w2 ⟨rfl, rfl⟩))
  go_ret
  exact ⟨rfl, rfl⟩
set_option maxRecDepth 20000 in
theorem cut_f {g cap N n : Nat} {w : World} (hE : EqC g cap N w false) (h5 : 5 ≤ n) (hc : n ≤ cap) (hm : cap ≤ 2 ^ 63 - 1) :
    Calls Tryd.prog 49 #[.slice (some ⟨g, 0, none⟩) n cap, .slice (some ⟨N, 0, none⟩) 5 5] w fun e w' => e = .returned (.tuple #[.slice (some ⟨g, 0, none⟩) n cap, .bool false]) ∧ w' = w := by
  have HE : Hid _ := hE
  clear hE
  go_enter Tryd.func49, Tryd.ntmps49
  go_wp2_with (first | (go_at_call 69; refine (hasP_any HE.out h5 hc hm).mono ?_; rintro e w2 ⟨rfl, rfl⟩))
  go_ret2
  exact ⟨rfl, rfl⟩
set_option maxRecDepth 20000 in
theorem cut_t {g cap N n : Nat} {w : World} (hE : EqC g cap N w true) (h5 : 5 ≤ n) (hc : n ≤ cap) (hm : cap ≤ 2 ^ 63 - 1) :
    Calls Tryd.prog 49 #[.slice (some ⟨g, 0, none⟩) n cap, .slice (some ⟨N, 0, none⟩) 5 5] w fun e w' => e = .returned (.tuple #[.slice (if cap = 5 then some ⟨g, 0, none⟩ else some ⟨g, 5, none⟩) (n - 5) (cap - 5), .bool true]) ∧ w' = w := by
  have HE : Hid _ := hE
  clear hE
  go_enter Tryd.func49, Tryd.ntmps49
  go_wp2_with (first | (go_at_call 69; refine (hasP_any HE.out h5 hc hm).mono ?_; rintro e w2 ⟨rfl, rfl⟩))
  all_goals
    go_ret2
    exact ⟨rfl, rfl⟩
set_option maxRecDepth 20000 in
set_option maxHeartbeats 1600000 in
theorem declared_any {P k : Nat} {v : PV} {l : Bs} {w : World} (h : In P w v l k) : Calls Tryd.prog 37 #[pp P] w fun e w' => e = .returned (.bool (isDecl l)) ∧ Below w.heap.size w w' := by
  have hPlt := h.ps.lt
  have hcs := Lib.run_convert_bytes_const (P := Tryd.prog) w 25 5 #[.int .u8 60, .int .u8 63, .int .u8 120, .int .u8 109, .int .u8 108] 5 5 Tryd.underlying25 Tryd.underlying5
  have hB := cw_below w [60, 63, 120, 109, 108]
  have hW := cw_bts w [60, 63, 120, 109, 108] pre_bd
  change _ = Result.ok _ (cw w [60, 63, 120, 109, 108]) at hcs
  generalize cw w [60, 63, 120, 109, 108] = w1 at *
  have HBB : Hid _ := hB
  rcases h.br.form with ⟨hv, hl⟩ | ⟨g, cap, hv, hc, hm, hbt⟩
  · have c0 : w.cell? ⟨P, 0, none⟩ = some (.slice none 0 0) := by rw [h.ps.rd.1, hv]
    subst hl
    clear hB hW
    go_enter Tryd.func37, Tryd.ntmps37
    go_wp2
    go_ret
    exact ⟨rfl, HBB.out⟩
  · have c0 : w.cell? ⟨P, 0, none⟩ = some (.slice (some ⟨g, 0, none⟩) l.length cap) := by rw [h.ps.rd.1, hv]
    have hll := h.ll
    have hbt1 := hbt.below hB
    unfold maxLen at hm
    by_cases h5 : 5 ≤ l.length
    · have hx1 := conv_sub (cap := cap) hbt1 (Nat.zero_le 5) h5 0
      have hx2 := conv_bts (some ⟨w.heap.size, 0, none⟩) 5 _ w1 hW (fun e => by cases e)
      have e5 : sub l 0 5 = l.take 5 := by unfold sub; simp
      rw [e5] at hx1
      have hE : Hid (Calls Tryd.prog 68 #[.slice (some ⟨g, 0, none⟩) 5 cap, .slice (some ⟨w.heap.size, 0, none⟩) 5 5] w1 fun e w' => e = .returned (.bool (l.take 5 == [60, 63, 120, 109, 108])) ∧ w' = w1) :=
        equal_any (w := w1) hx1 hx2 (by rw [← e5]; exact sub_bd h.br.2) pre_bd
      clear hx1 hx2 hB hW e5
      have hck : ¬ cap < 5 := by omega
      cases hp : (l.take 5 == [60, 63, 120, 109, 108])
      · have hF : isDecl l = false := by
          unfold isDecl
          rw [decide_eq_false_iff_not]
          rintro ⟨e, _⟩
          rw [e] at hp
          simp at hp
        rw [hF]
        rw [hp] at hE
        go_enter Tryd.func37, Tryd.ntmps37
        go_wp2_with (first | (go_at_call 49; refine (cut_f hE.out h5 hc hm).mono ?_; rintro e w2 ⟨rfl, rfl⟩))
        go_ret
        exact ⟨rfl, HBB.out⟩
      · rw [hp] at hE
        by_cases h6 : 5 < l.length
        · have hcell : w1.cell? ⟨g, 5, none⟩ = some (.int .u8 (l.getD 5 0)) := by
            rcases hbt1.2 with rfl | ⟨b, o, he, hc⟩
            · simp at h6
            · simp at he
              obtain ⟨rfl, rfl⟩ := he
              simpa using hc 5 h6
          have hF : isDecl l = isWhite (l.getD 5 0) := by
            unfold isDecl
            rw [Bool.eq_iff_iff, decide_eq_true_iff]
            simp at hp
            simp [hp, h6]
          have hbd := h.br.2 5
          have hb0 := hbd.1
          have hb1 := hbd.2
          rw [hF]
          generalize l.getD 5 0 = c at *
          clear hF hp hbd
          have hck5 : ¬ cap = 5 := by omega
          go_enter Tryd.func37, Tryd.ntmps37
          go_wp2_with (first | (go_at_call 49; refine (cut_t hE.out h5 hc hm).mono ?_; rintro e w2 ⟨rfl, rfl⟩) | (go_at_call 50; refine (white_any _ _).mono ?_; rintro e w2 ⟨rfl, rfl⟩))
          go_ret
          exact ⟨rfl, HBB.out⟩
        · have hF : isDecl l = false := by
            unfold isDecl
            rw [decide_eq_false_iff_not]
            omega
          rw [hF]
          go_enter Tryd.func37, Tryd.ntmps37
          go_wp2_with (first | (go_at_call 49; refine (cut_t hE.out h5 hc hm).mono ?_; rintro e w2 ⟨rfl, rfl⟩))
          all_goals
            go_ret
            exact ⟨rfl, HBB.out⟩
    · have hF : isDecl l = false := by
        unfold isDecl
        rw [decide_eq_false_iff_not]
        omega
      have h5' : ¬ ((5 : Int) ≤ (l.length : Int)) := by omega
      rw [hF]
      clear hB hW
      go_enter Tryd.func37, Tryd.ntmps37
      go_wp2
      go_ret
      exact ⟨rfl, HBB.out⟩
end Go.Proofs.YtjcgnbmpnaapdaaDoor
namespace Go.Proofs.YtjcgnbmpnaapdaaDoor
open Go.RowKit
set_option linter.unusedVariables false

theorem Full.tneb {B P : Nat} {w : World} {v : PV} {l : Bs} {L : Lm} {s : S} (h : Full B P w v l L s) : v.tout.ownBlock = none ∨ v.tout.ownBlock ≠ v.b.ownBlock := by
  cases ht : v.tout.ownBlock with
  | none => exact .inl rfl
  | some k =>
    right
    intro e
    have h1 := (h.to.lt k ht).1
    have h2 := h.gb k e.symm
    omega
theorem Full.same {B P : Nat} {w : World} {v v' : PV} {l : Bs} {L : Lm} {s s' : S} (h : Full B P w v l L s) (hs : s = s') (hv : v = v') : Full B P w v' l L s' := by subst hs; subst hv; exact h
theorem Fr.refl (P : Nat) (w : World) (v : PV) : Fr P w w v v := ⟨rfl, rfl, rfl, Nat.le_refl _, fun _ _ _ _ _ _ => rfl, fun _ e => .inl e, fun _ e => .inl e, fun _ e => .inl e⟩
set_option maxHeartbeats 800000 in
theorem begin_s {B P : Nat} {w : World} {v : PV} {l : Bs} {L : Lm} {s : S} (at0 : Int) (h : Full B P w v l L s) :
    Calls Tryd.prog 43 #[pp P, .int .i64 at0] w fun e w' => e = .returned (.tuple #[]) ∧ ∃ v', Full B P w' v' l L (beginS s at0) ∧ Fr P w w' v v' := by
  have c11 : w.cell? ⟨P, 11, none⟩ = some (.bool v.begun) := h.inn.ps.cell 11
  have f11 := h.inn.ps.froz 11
  have c12 : w.cell? ⟨P, 12, none⟩ = some (.int .i64 v.tat) := h.inn.ps.cell 12
  have f12 := h.inn.ps.froz 12
  have c13 : w.cell? ⟨P, 13, none⟩ = some v.tout := h.inn.ps.cell 13
  have f13 := h.inn.ps.froz 13
  have HH : Hid _ := And.intro h (h.text3 true at0)
  have HB : Hid _ := h.bg
  cases hb : s.begun
  · have e : v.begun = false := by rw [h.bg, hb]
    rw [e] at c11
    have HS : Hid (beginS s at0 = { s with begun := true, tat := at0, tout := [] }) := by unfold beginS; rw [hb]; rfl
    clear h e hb
    go_enter Tryd.func43, Tryd.ntmps43
    go_wp2
    go_end0
    rw [HS.out]
    exact ⟨rfl, _, HH.out.2.1, HH.out.2.2⟩
  · have e : v.begun = true := by rw [h.bg, hb]
    rw [e] at c11
    have HS : Hid (beginS s at0 = s) := by unfold beginS; rw [if_pos hb]; exact rfl
    clear h e hb
    go_enter Tryd.func43, Tryd.ntmps43
    go_wp2
    go_end0
    rw [HS.out]
    exact ⟨rfl, _, HH.out.1, Fr.refl _ _ _⟩
theorem put_t {B P : Nat} {w : World} {v : PV} {l : Bs} {L : Lm} {s : S} {r : Int} (h : Full B P w v l L s) (hr : isChar r = true) :
    Calls Tryd.prog 44 #[pp P, .pointer (some ⟨P, 11, none⟩), .int .i32 r] w (Rd B P w v l L (putQ L s r s.k)) := by
  have hT := h.bT
  have htl := h.tl
  have hneP : v.tout.ownBlock ≠ some P := by
    rcases own_ne81 h.inn.ps h.to (by decide) with e | e
    · rw [e]; simp
    · exact e
  refine (put_any (P := P) (O := P) (f := 11) (T := v.t) (at0 := v.tat) (h.inn.ps.cell 13) (h.inn.ps.froz 13) (h.inn.ps.cell 12) (h.inn.ps.cell 6) h.to h.sz (by omega) hneP hneP hr (by rintro ⟨_, e⟩; simp at e)).mono ?_
  rintro e w' ⟨rfl, ov', w3, m, hg3, ho3, hnn, hnb, rfl⟩
  have hps3 : PS w3 P v := h.inn.ps.kept hg3 (fun e => hneP e.symm)
  have hg4 := grownBy_set w3 P 13 ov'
  have hfr : Fr P w ((w3.setCell ⟨P, 13, none⟩ ov').drewN m) v { v with tout := ov' } := by
    refine ⟨hg4.os.trans hg3.os, hg4.tape.trans hg3.tape, hg4.output.trans hg3.output, Nat.le_trans hg3.size hg4.size, ?_, hnb, fun _ e => .inl e, fun _ e => .inl e⟩
    intro k hk1 n1 n2 n3 n4
    show (w3.setCell ⟨P, 13, none⟩ ov').heap[k]? = _
    rw [hg4.block k (Nat.lt_of_lt_of_le hk1 hg3.size) (by simpa using n1), hg3.block k hk1 n2]
  by_cases hbig : L.T < ((s.tout ++ enc r).length : Int)
  · have e1 : putQ L s r s.k = .bad s.tat 3 := by unfold putQ putS; rw [if_pos hbig]; rfl
    rw [e1]
    refine ⟨?_, { v with tout := ov' }, hps3.set 13 _ rfl, rfl, hfr⟩
    unfold putE
    rw [h.lt', if_pos hbig, h.ta]
  · have e1 : putQ L s r s.k = .go { s with tout := s.tout ++ enc r } := by unfold putQ putS; rw [if_neg hbig]; rfl
    rw [e1]
    have hF := (h.toutv hg3 ho3 (app_bd h.tb (enc_bd r)) (by omega) hnb h.tneb).1
    refine ⟨?_, { v with tout := ov' }, ?_, hfr⟩
    · unfold putE
      rw [h.lt', if_neg hbig]
    · obtain ⟨xs, r1, r2⟩ := hF.rd
      exact ⟨hF.inn.drewN m, hF.pb, hF.gb, hF.sz, hF.ld, hF.lN, hF.la, hF.lt', hF.bD, hF.bA, hF.bT, hF.lg, hF.op, hF.opl, hF.nd, hF.bg, hF.ta, hF.to, hF.tb, hF.tl, ⟨xs, r1, EvC.ky (Ky.of (grownBy_drewN _ m none) (fun g e => by cases e)) r2⟩, hF.rl, hF.ov, hF.fa, hF.fe, hF.bN, hF.nb, hF.ob⟩
end Go.Proofs.YtjcgnbmpnaapdaaDoor
namespace Go.Proofs.YtjcgnbmpnaapdaaDoor
open Go.RowKit
set_option linter.unusedVariables false

theorem rd_scan_bad {B P : Nat} {w w' : World} {v : PV} {l : Bs} {L : Lm} {p er : Int} {k : Int} (hg : w.grownBy w' (some P)) (hp : PS w' P { v with k := k }) : Rd B P w v l L (.bad p er) (.panicked (flt p er)) w' :=
  ⟨rfl, _, hp, rfl, Fr.scan hg⟩
theorem bd_take {l : Bs} (h : ∀ i, 0 ≤ l.getD i 0 ∧ l.getD i 0 < 256) (n : Nat) : ∀ i, 0 ≤ (l.take n).getD i 0 ∧ (l.take n).getD i 0 < 256 := by
  intro i
  rw [List.getD_eq_getElem?_getD, List.getElem?_take]
  split
  · have := h i; rw [List.getD_eq_getElem?_getD] at this; exact this
  · simp

/-- Where a way through a region has come to its end: nothing is left of it. -/
theorem dmy {G : Prop} (w : World) (hG : G) (_ : wpAny Tryd.prog .any #[] (fun _ _ _ => True) 0 #[] ⟨#[], []⟩ w) : G := hG
theorem Full.rdlt {B P : Nat} {w : World} {v : PV} {l : Bs} {L : Lm} {s : S} (h : Full B P w v l L s) : v.ready.ownBlock ≠ some w.heap.size := by
  obtain ⟨xs, hr, _⟩ := h.rd
  intro e
  have := (hr.lt _ e).2
  omega
theorem Full.drewN {B P : Nat} {w : World} {v : PV} {l : Bs} {L : Lm} {s : S} (h : Full B P w v l L s) (m : Nat) : Full B P (w.drewN m) v l L s := (h.below (below_drewN (Below.refl _ _) m)).1
theorem Fr.drewN {P : Nat} {w w' : World} {v v' : PV} (h : Fr P w w' v v') (m : Nat) : Fr P w (w'.drewN m) v v' := ⟨h.os, h.tape, h.output, h.size, h.blk, h.nt, h.nr, h.no⟩
abbrev evO (e : Ev) (sv : Value) : Obj := .cells #[.int .i64 e.kind, .int .i64 e.place, .string (sb e.name), .string (sb e.text), sv] 35
theorem tell_one {B P : Nat} {w : World} {v : PV} {l : Bs} {L : Lm} {s : S} (h : Full B P w v l L s) (hrd : s.ready = []) (e : Ev) (hok : EvOk e) (sv : Value) (hAR : AR B w sv e.attrs) :
    Calls Tryd.prog 76 #[pp P, .slice (some ⟨w.heap.size, 0, none⟩) 1 1] (w.alloc (evO e sv)) fun x w' => x = .returned (.tuple #[]) ∧ ∃ v', Full B P w' v' l L (tellS s [e]) ∧ Fr P w w' v v' := by
  obtain ⟨h1, f1⟩ := h.below ((Below.refl _ _).alloc (Nat.le_refl _) (evO e sv))
  refine (tell_any h1 (news := evHead e sv) (tag := [e]) (m := 1) (tg := w.heap.size) (new_cells w _ 35) ⟨sv, [], rfl, ⟨hAR.alloc _, hok⟩, rfl⟩ rfl (by decide) (by decide) hrd ?_ h.rdlt (by simp)).mono ?_
  · have := h.inn.ps.lt; omega
  · rintro x w' ⟨rfl, v', hF, hf⟩
    exact ⟨rfl, v', hF, f1.trans hf⟩
abbrev evO2 (e : Ev) (sv : Value) (e2 : Ev) (sv2 : Value) : Obj := .cells #[.int .i64 e.kind, .int .i64 e.place, .string (sb e.name), .string (sb e.text), sv, .int .i64 e2.kind, .int .i64 e2.place, .string (sb e2.name), .string (sb e2.text), sv2] 35
theorem tell_two {B P : Nat} {w : World} {v : PV} {l : Bs} {L : Lm} {s : S} (h : Full B P w v l L s) (hrd : s.ready = []) (e e2 : Ev) (hok : EvOk e) (hok2 : EvOk e2) (sv sv2 : Value) (hAR : AR B w sv e.attrs) (hAR2 : AR B w sv2 e2.attrs) :
    Calls Tryd.prog 76 #[pp P, .slice (some ⟨w.heap.size, 0, none⟩) 2 2] (w.alloc (evO2 e sv e2 sv2)) fun x w' => x = .returned (.tuple #[]) ∧ ∃ v', Full B P w' v' l L (tellS s [e, e2]) ∧ Fr P w w' v v' := by
  obtain ⟨h1, f1⟩ := h.below ((Below.refl _ _).alloc (Nat.le_refl _) (evO2 e sv e2 sv2))
  refine (tell_any h1 (news := evHead e sv ++ evHead e2 sv2) (tag := [e, e2]) (m := 2) (tg := w.heap.size) (new_cells w _ 35) ⟨sv, evHead e2 sv2, rfl, ⟨hAR.alloc _, hok⟩, ⟨sv2, [], rfl, ⟨hAR2.alloc _, hok2⟩, rfl⟩⟩ rfl (by decide) (by decide) hrd ?_ h.rdlt (by simp)).mono ?_
  · have := h.inn.ps.lt; omega
  · rintro x w' ⟨rfl, v', hF, hf⟩
    exact ⟨rfl, v', hF, f1.trans hf⟩
theorem sb_extract (a : Bs) (n : Nat) : (sb a).extract 0 n = sb (a.take n) := by
  apply ByteArray.ext
  simp [sb, ByteArray.data_extract]
theorem hasPre_any {a b : Bs} {w : World} (ha : ∀ i, 0 ≤ a.getD i 0 ∧ a.getD i 0 < 256) (hb : ∀ i, 0 ≤ b.getD i 0 ∧ b.getD i 0 < 256) (hla : a.length ≤ 65536) (hlb : b.length ≤ 65536) :
    Calls Tryd.prog 81 #[.string (sb a), .string (sb b)] w fun e w' => e = .returned (.bool (a.take b.length == b)) ∧ w' = w := by
  have hsa := sb_size a
  have hsb := sb_size b
  by_cases hle : b.length ≤ a.length
  · have hle' : (b.length : Int) ≤ (a.length : Int) := by omega
    go_enter Tryd.func81, Tryd.ntmps81
    go_wp2
    go_ret
    refine ⟨ret_bool ?_, rfl⟩
    rw [sb_extract]
    exact sb_beq (bd_take ha _) hb
  · have hle' : ¬ (b.length : Int) ≤ (a.length : Int) := by omega
    have HF : Hid ((a.take b.length == b) = false) := by
      rw [Hid, beq_eq_false_iff_ne]
      intro e
      have := congrArg List.length e
      simp at this
      omega
    go_enter Tryd.func81, Tryd.ntmps81
    go_wp2
    go_ret
    exact ⟨ret_bool HF.out.symm, rfl⟩
set_option maxHeartbeats 1600000 in
theorem end_s {B P : Nat} {w : World} {v : PV} {l : Bs} {L : Lm} {s : S} (lt0 : Nat) (h : Full B P w v l L s) (ho : s.op ≠ []) (hrd : s.ready = []) :
    Calls Tryd.prog 63 #[pp P, .int .i64 lt0] w (Rd B P w v l L (endS l L s lt0 s.k)) := by
  have c9 : w.cell? ⟨P, 9, none⟩ = some v.op := h.inn.ps.cell 9
  have hT := h.bT
  have hT' : 0 ≤ v.t ∧ v.t ≤ 65536 := by rw [h.lt']; omega
  have hol : 0 < s.op.length := List.length_pos_iff.2 ho
  have hDl := h.opl
  have hD := h.bD
  have hol2 : s.op.length ≤ 65536 := by omega
  have hdl : ((s.op.dropLast.length : Nat) : Int) ≤ L.D := by simp; omega
  rw [endS]
  rcases hn : nameS l L.T s.k with ⟨nm, k1⟩ | ⟨p, er⟩
  · rw [← h.lt'] at hn
    show Calls Tryd.prog 63 _ w (Rd B P w v l L (if nm ≠ s.op.getLastD [] ∧ ¬ (k1 = l.length ∧ (s.op.getLastD []).take nm.length = nm) then Q.bad lt0 2 else (blanksS l k1).q fun _ k2 => (signS l 62 k2).q fun _ k3 => .go (tellS { s with k := k3, op := s.op.dropLast } [⟨2, lt0, nm, [], []⟩])))
    have hnb : Bd nm := by rw [(nameS_ok hn).1]; exact sub_bd h.inn.br.2
    have hnl : nm.length ≤ 65536 := by rw [(nameS_ok hn).1]; have := sub_len' l s.k k1; have := h.inn.ll; omega
    have hwm : s.op.getLastD [] ∈ s.op := by
      cases hso : s.op with
      | nil => exact absurd hso ho
      | cons a t => rw [List.getLastD_cons]; exact List.getLastD_mem_cons
    have hwb := h.ob _ hwm
    generalize hw : s.op.getLastD [] = want at *
    have HW : Hid _ := hw
    have hbeq := sb_beq hnb hwb.1
    have HH : Hid _ := h
    have HNM : Hid _ := hn
    clear h hw hn hwm
    obtain ⟨X, hX⟩ : ∃ X, X = (if nm ≠ want ∧ ¬ (k1 = l.length ∧ want.take nm.length = nm) then Q.bad lt0 2 else (blanksS l k1).q fun _ k2 => (signS l 62 k2).q fun _ k3 => .go (tellS { s with k := k3, op := s.op.dropLast } [⟨2, lt0, nm, [], []⟩])) := ⟨_, rfl⟩
    rw [← hX]
    have HX : Hid _ := hX
    clear hX
    go_enter Tryd.func63, Tryd.ntmps63
    go_upto_region 0 with fail
    go_cut [4, 5] (fun v4 v5 wx => v4 = .string (sb nm) ∧ v5 = .string (sb want) ∧ Full B P wx { v with k := (k1 : Int) } l L { s with k := k1 } ∧ w.grownBy wx (some P))
    case first =>
      go_region_with (first | (go_at_call 72; refine (scan_ok (name_s (HH.out.inn.drewN _) hT') HNM.out).mono ?_; rintro e w1 ⟨rfl, hg1, hi1⟩; have c9' : w1.cell? ⟨P, 9, none⟩ = some v.op := hi1.ps.cell 9; have HG : Hid _ := hg1; have HI : Hid _ := hi1; clear hg1 hi1) | (go_at_call 80; refine (top_any (w := w.drewN 1) HH.out.op hol (by omega)).mono ?_; rw [HW.out]; rintro e w2 ⟨rfl, rfl⟩) | (go_at_call 80; refine (top_any (B := B) ((ky_ps HH.out.inn.ps (grownBy_trans (gd 1) HG.out) (by decide)).own HH.out.op) hol (by omega)).mono ?_; rw [HW.out]; rintro e w2 ⟨rfl, rfl⟩))
      all_goals
        go_wp2_with fail
        go_meet
        exact ⟨rfl, rfl, HH.out.scan (grownBy_trans (gd 1) HG.out) HI.out, grownBy_trans (gd 1) HG.out⟩
    case rest =>
      obtain ⟨rfl, rfl, hA, hgA⟩ := hcut
      have HA : Hid _ := hA
      have HRD : Hid _ := hrd
      clear hA hrd
      by_cases hnw : nm = want
      · have hq : ((sb nm).toList == (sb want).toList) = true := by rw [hbeq, hnw]; simp
        have hq' : ((sb nm).toList != (sb want).toList) = false := by rw [bne, hq]; rfl
        have HC : Hid (X = (blanksS l k1).q fun _ k2 => (signS l 62 k2).q fun _ k3 => .go (tellS { s with k := k3, op := s.op.dropLast } [⟨2, lt0, nm, [], []⟩])) := HX.out.trans (if_neg (fun x => x.1 hnw))
        clear hbeq hnw hq'
        cases hed : (k1 == l.length)
        · skip
          rcases hb : blanksS l k1 with ⟨_, k2⟩ | ⟨p, er⟩
          · have HB : Hid _ := hb
            clear hb
            rcases hs : signS l 62 k2 with ⟨_, k3⟩ | ⟨p, er⟩
            · have HS : Hid _ := hs
              clear hs
              go_wp2_with (first | (go_at_call 57; refine (ended_t HA.out.inn).mono ?_; rintro e w2 ⟨rfl, m2, rfl⟩) | (go_at_call 51; refine (scan_ok (blanks_s (HA.out.inn.drewN m2)) HB.out).mono ?_; rintro e w3 ⟨rfl, hg3, hi3⟩) | (go_at_call 56; refine (scan_ok (sign_s 62 hi3) HS.out).mono ?_; rintro e w4 ⟨rfl, hg4, hi4⟩; have F4 := ((HA.out.drewN m2).scan hg3 hi3).scan hg4 hi4; have c9 : w4.cell? ⟨P, 9, none⟩ = some v.op := hi4.ps.cell 9; have HF4 : Hid _ := F4; clear F4) | (go_at_call 82; refine (pop_any (O := P) (f := 9) (HF4.out.inn.ps.cell 9) (HF4.out.inn.ps.froz 9) HF4.out.op hol hol2).mono ?_; rintro e w5 ⟨rfl, vp, mp, hNR, hvb, rfl⟩; have F5 := Full.openv (w3 := w4.drewN mp) HF4.out (grownBy_drewN _ _ _) hNR hdl (fun n hn => HF4.out.ob n (List.dropLast_subset _ hn)) (fun k e => .inl (hvb ▸ e)); have HF5 : Hid _ := F5; clear F5 hNR hvb; generalize ((w4.drewN mp).setCell ⟨P, 9, none⟩ vp) = w6 at *) | (go_at_call 76; refine (tell_one HF5.out.1 HRD.out ⟨2, lt0, nm, [], []⟩ ⟨hnb, bd_nil, fun a ha => by cases ha⟩ (.slice none 0 0) (World.ownsRow_nil _ _ _ _)).mono ?_; rintro e w7 ⟨rfl, v7, F7, f7⟩; have HF7 : Hid _ := And.intro F7 f7; clear F7 f7))
              go_end0
              rw [HC.out, HB.out]
              show Rd _ _ _ _ _ _ ((signS l 62 k2).q _) _ _
              rw [HS.out]
              exact ⟨rfl, v7, HF7.out.1, (Fr.scan hgA).trans ((((Fr.refl P wc _).drewN m2).trans (Fr.scan hg3)).trans ((Fr.scan hg4).trans (HF5.out.2.trans HF7.out.2)))⟩
            · have HS : Hid _ := hs
              clear hs
              go_wp2_with (first | (go_at_call 57; refine (ended_t HA.out.inn).mono ?_; rintro e w2 ⟨rfl, m2, rfl⟩) | (go_at_call 51; refine (scan_ok (blanks_s (HA.out.inn.drewN m2)) HB.out).mono ?_; rintro e w3 ⟨rfl, hg3, hi3⟩) | (go_at_call 56; refine (scan_bad (sign_s 62 hi3) HS.out).mono ?_; rintro e w4 ⟨rfl, hg4, kk, hp⟩))
              refine ⟨rfl, ?_⟩
              rw [HC.out, HB.out]
              show Rd _ _ _ _ _ _ ((signS l 62 k2).q _) _ _
              rw [HS.out]
              exact rd_scan_bad (grownBy_trans hgA (grownBy_trans (gd m2) (grownBy_trans hg3 hg4))) hp
          · have HB : Hid _ := hb
            clear hb
            go_wp2_with (first | (go_at_call 57; refine (ended_t HA.out.inn).mono ?_; rintro e w2 ⟨rfl, m2, rfl⟩) | (go_at_call 51; refine (scan_bad (blanks_s (HA.out.inn.drewN m2)) HB.out).mono ?_; rintro e w3 ⟨rfl, hg3, kk, hp⟩))
            refine ⟨rfl, ?_⟩
            rw [HC.out, HB.out]
            exact rd_scan_bad (grownBy_trans hgA (grownBy_trans (gd m2) hg3)) hp
        · cases hpr : (want.take nm.length == nm)
          · skip
            rcases hb : blanksS l k1 with ⟨_, k2⟩ | ⟨p, er⟩
            · have HB : Hid _ := hb
              clear hb
              rcases hs : signS l 62 k2 with ⟨_, k3⟩ | ⟨p, er⟩
              · have HS : Hid _ := hs
                clear hs
                go_wp2_with (first | (go_at_call 57; refine (ended_t HA.out.inn).mono ?_; rintro e w2 ⟨rfl, m2, rfl⟩) | (go_at_call 81; refine (hasPre_any hwb.1 hnb hwb.2 hnl).mono ?_; rw [hpr]; rintro e w2 ⟨rfl, rfl⟩) | (go_at_call 51; refine (scan_ok (blanks_s (HA.out.inn.drewN m2)) HB.out).mono ?_; rintro e w3 ⟨rfl, hg3, hi3⟩) | (go_at_call 56; refine (scan_ok (sign_s 62 hi3) HS.out).mono ?_; rintro e w4 ⟨rfl, hg4, hi4⟩; have F4 := ((HA.out.drewN m2).scan hg3 hi3).scan hg4 hi4; have c9 : w4.cell? ⟨P, 9, none⟩ = some v.op := hi4.ps.cell 9; have HF4 : Hid _ := F4; clear F4) | (go_at_call 82; refine (pop_any (O := P) (f := 9) (HF4.out.inn.ps.cell 9) (HF4.out.inn.ps.froz 9) HF4.out.op hol hol2).mono ?_; rintro e w5 ⟨rfl, vp, mp, hNR, hvb, rfl⟩; have F5 := Full.openv (w3 := w4.drewN mp) HF4.out (grownBy_drewN _ _ _) hNR hdl (fun n hn => HF4.out.ob n (List.dropLast_subset _ hn)) (fun k e => .inl (hvb ▸ e)); have HF5 : Hid _ := F5; clear F5 hNR hvb; generalize ((w4.drewN mp).setCell ⟨P, 9, none⟩ vp) = w6 at *) | (go_at_call 76; refine (tell_one HF5.out.1 HRD.out ⟨2, lt0, nm, [], []⟩ ⟨hnb, bd_nil, fun a ha => by cases ha⟩ (.slice none 0 0) (World.ownsRow_nil _ _ _ _)).mono ?_; rintro e w7 ⟨rfl, v7, F7, f7⟩; have HF7 : Hid _ := And.intro F7 f7; clear F7 f7))
                go_end0
                rw [HC.out, HB.out]
                show Rd _ _ _ _ _ _ ((signS l 62 k2).q _) _ _
                rw [HS.out]
                exact ⟨rfl, v7, HF7.out.1, (Fr.scan hgA).trans ((((Fr.refl P wc _).drewN m2).trans (Fr.scan hg3)).trans ((Fr.scan hg4).trans (HF5.out.2.trans HF7.out.2)))⟩
              · have HS : Hid _ := hs
                clear hs
                go_wp2_with (first | (go_at_call 57; refine (ended_t HA.out.inn).mono ?_; rintro e w2 ⟨rfl, m2, rfl⟩) | (go_at_call 81; refine (hasPre_any hwb.1 hnb hwb.2 hnl).mono ?_; rw [hpr]; rintro e w2 ⟨rfl, rfl⟩) | (go_at_call 51; refine (scan_ok (blanks_s (HA.out.inn.drewN m2)) HB.out).mono ?_; rintro e w3 ⟨rfl, hg3, hi3⟩) | (go_at_call 56; refine (scan_bad (sign_s 62 hi3) HS.out).mono ?_; rintro e w4 ⟨rfl, hg4, kk, hp⟩))
                refine ⟨rfl, ?_⟩
                rw [HC.out, HB.out]
                show Rd _ _ _ _ _ _ ((signS l 62 k2).q _) _ _
                rw [HS.out]
                exact rd_scan_bad (grownBy_trans hgA (grownBy_trans (gd m2) (grownBy_trans hg3 hg4))) hp
            · have HB : Hid _ := hb
              clear hb
              go_wp2_with (first | (go_at_call 57; refine (ended_t HA.out.inn).mono ?_; rintro e w2 ⟨rfl, m2, rfl⟩) | (go_at_call 81; refine (hasPre_any hwb.1 hnb hwb.2 hnl).mono ?_; rw [hpr]; rintro e w2 ⟨rfl, rfl⟩) | (go_at_call 51; refine (scan_bad (blanks_s (HA.out.inn.drewN m2)) HB.out).mono ?_; rintro e w3 ⟨rfl, hg3, kk, hp⟩))
              refine ⟨rfl, ?_⟩
              rw [HC.out, HB.out]
              exact rd_scan_bad (grownBy_trans hgA (grownBy_trans (gd m2) hg3)) hp
          · skip
            rcases hb : blanksS l k1 with ⟨_, k2⟩ | ⟨p, er⟩
            · have HB : Hid _ := hb
              clear hb
              rcases hs : signS l 62 k2 with ⟨_, k3⟩ | ⟨p, er⟩
              · have HS : Hid _ := hs
                clear hs
                go_wp2_with (first | (go_at_call 57; refine (ended_t HA.out.inn).mono ?_; rintro e w2 ⟨rfl, m2, rfl⟩) | (go_at_call 81; refine (hasPre_any hwb.1 hnb hwb.2 hnl).mono ?_; rw [hpr]; rintro e w2 ⟨rfl, rfl⟩) | (go_at_call 51; refine (scan_ok (blanks_s (HA.out.inn.drewN m2)) HB.out).mono ?_; rintro e w3 ⟨rfl, hg3, hi3⟩) | (go_at_call 56; refine (scan_ok (sign_s 62 hi3) HS.out).mono ?_; rintro e w4 ⟨rfl, hg4, hi4⟩; have F4 := ((HA.out.drewN m2).scan hg3 hi3).scan hg4 hi4; have c9 : w4.cell? ⟨P, 9, none⟩ = some v.op := hi4.ps.cell 9; have HF4 : Hid _ := F4; clear F4) | (go_at_call 82; refine (pop_any (O := P) (f := 9) (HF4.out.inn.ps.cell 9) (HF4.out.inn.ps.froz 9) HF4.out.op hol hol2).mono ?_; rintro e w5 ⟨rfl, vp, mp, hNR, hvb, rfl⟩; have F5 := Full.openv (w3 := w4.drewN mp) HF4.out (grownBy_drewN _ _ _) hNR hdl (fun n hn => HF4.out.ob n (List.dropLast_subset _ hn)) (fun k e => .inl (hvb ▸ e)); have HF5 : Hid _ := F5; clear F5 hNR hvb; generalize ((w4.drewN mp).setCell ⟨P, 9, none⟩ vp) = w6 at *) | (go_at_call 76; refine (tell_one HF5.out.1 HRD.out ⟨2, lt0, nm, [], []⟩ ⟨hnb, bd_nil, fun a ha => by cases ha⟩ (.slice none 0 0) (World.ownsRow_nil _ _ _ _)).mono ?_; rintro e w7 ⟨rfl, v7, F7, f7⟩; have HF7 : Hid _ := And.intro F7 f7; clear F7 f7))
                go_end0
                rw [HC.out, HB.out]
                show Rd _ _ _ _ _ _ ((signS l 62 k2).q _) _ _
                rw [HS.out]
                exact ⟨rfl, v7, HF7.out.1, (Fr.scan hgA).trans ((((Fr.refl P wc _).drewN m2).trans (Fr.scan hg3)).trans ((Fr.scan hg4).trans (HF5.out.2.trans HF7.out.2)))⟩
              · have HS : Hid _ := hs
                clear hs
                go_wp2_with (first | (go_at_call 57; refine (ended_t HA.out.inn).mono ?_; rintro e w2 ⟨rfl, m2, rfl⟩) | (go_at_call 81; refine (hasPre_any hwb.1 hnb hwb.2 hnl).mono ?_; rw [hpr]; rintro e w2 ⟨rfl, rfl⟩) | (go_at_call 51; refine (scan_ok (blanks_s (HA.out.inn.drewN m2)) HB.out).mono ?_; rintro e w3 ⟨rfl, hg3, hi3⟩) | (go_at_call 56; refine (scan_bad (sign_s 62 hi3) HS.out).mono ?_; rintro e w4 ⟨rfl, hg4, kk, hp⟩))
                refine ⟨rfl, ?_⟩
                rw [HC.out, HB.out]
                show Rd _ _ _ _ _ _ ((signS l 62 k2).q _) _ _
                rw [HS.out]
                exact rd_scan_bad (grownBy_trans hgA (grownBy_trans (gd m2) (grownBy_trans hg3 hg4))) hp
            · have HB : Hid _ := hb
              clear hb
              go_wp2_with (first | (go_at_call 57; refine (ended_t HA.out.inn).mono ?_; rintro e w2 ⟨rfl, m2, rfl⟩) | (go_at_call 81; refine (hasPre_any hwb.1 hnb hwb.2 hnl).mono ?_; rw [hpr]; rintro e w2 ⟨rfl, rfl⟩) | (go_at_call 51; refine (scan_bad (blanks_s (HA.out.inn.drewN m2)) HB.out).mono ?_; rintro e w3 ⟨rfl, hg3, kk, hp⟩))
              refine ⟨rfl, ?_⟩
              rw [HC.out, HB.out]
              exact rd_scan_bad (grownBy_trans hgA (grownBy_trans (gd m2) hg3)) hp
      · have hq : ((sb nm).toList == (sb want).toList) = false := by rw [hbeq]; simp [hnw]
        have hq' : ((sb nm).toList != (sb want).toList) = true := by rw [bne, hq]; rfl
        clear hbeq hq'
        cases hed : (k1 == l.length)
        · have HC : Hid (X = .bad lt0 2) := HX.out.trans (if_pos ⟨hnw, fun x => by rw [x.1] at hed; simp at hed⟩)
          clear hnw
          go_wp2_with (first | (go_at_call 57; refine (ended_t HA.out.inn).mono ?_; rintro e w2 ⟨rfl, m2, rfl⟩) | (go_at_call 47; refine (fail_any _ _ _).mono ?_; rintro e w' ⟨rfl, rfl⟩))
          refine ⟨rfl, ?_⟩
          rw [HC.out]
          exact rd_scan_bad (grownBy_trans hgA (gd m2)) (HA.out.drewN m2).inn.ps
        · cases hpr : (want.take nm.length == nm)
          · have HC : Hid (X = .bad lt0 2) := HX.out.trans (if_pos ⟨hnw, fun x => by rw [x.2] at hpr; simp at hpr⟩)
            clear hnw
            go_wp2_with (first | (go_at_call 57; refine (ended_t HA.out.inn).mono ?_; rintro e w2 ⟨rfl, m2, rfl⟩) | (go_at_call 81; refine (hasPre_any hwb.1 hnb hwb.2 hnl).mono ?_; rw [hpr]; rintro e w2 ⟨rfl, rfl⟩) | (go_at_call 47; refine (fail_any _ _ _).mono ?_; rintro e w' ⟨rfl, rfl⟩))
            refine ⟨rfl, ?_⟩
            rw [HC.out]
            exact rd_scan_bad (grownBy_trans hgA (gd m2)) (HA.out.drewN m2).inn.ps
          · have HC : Hid (X = (blanksS l k1).q fun _ k2 => (signS l 62 k2).q fun _ k3 => .go (tellS { s with k := k3, op := s.op.dropLast } [⟨2, lt0, nm, [], []⟩])) := HX.out.trans (if_neg (fun x => x.2 ⟨by simpa using hed, by simpa using hpr⟩))
            clear hnw
            rcases hb : blanksS l k1 with ⟨_, k2⟩ | ⟨p, er⟩
            · have HB : Hid _ := hb
              clear hb
              rcases hs : signS l 62 k2 with ⟨_, k3⟩ | ⟨p, er⟩
              · have HS : Hid _ := hs
                clear hs
                go_wp2_with (first | (go_at_call 57; refine (ended_t HA.out.inn).mono ?_; rintro e w2 ⟨rfl, m2, rfl⟩) | (go_at_call 81; refine (hasPre_any hwb.1 hnb hwb.2 hnl).mono ?_; rw [hpr]; rintro e w2 ⟨rfl, rfl⟩) | (go_at_call 51; refine (scan_ok (blanks_s (HA.out.inn.drewN m2)) HB.out).mono ?_; rintro e w3 ⟨rfl, hg3, hi3⟩) | (go_at_call 56; refine (scan_ok (sign_s 62 hi3) HS.out).mono ?_; rintro e w4 ⟨rfl, hg4, hi4⟩; have F4 := ((HA.out.drewN m2).scan hg3 hi3).scan hg4 hi4; have c9 : w4.cell? ⟨P, 9, none⟩ = some v.op := hi4.ps.cell 9; have HF4 : Hid _ := F4; clear F4) | (go_at_call 82; refine (pop_any (O := P) (f := 9) (HF4.out.inn.ps.cell 9) (HF4.out.inn.ps.froz 9) HF4.out.op hol hol2).mono ?_; rintro e w5 ⟨rfl, vp, mp, hNR, hvb, rfl⟩; have F5 := Full.openv (w3 := w4.drewN mp) HF4.out (grownBy_drewN _ _ _) hNR hdl (fun n hn => HF4.out.ob n (List.dropLast_subset _ hn)) (fun k e => .inl (hvb ▸ e)); have HF5 : Hid _ := F5; clear F5 hNR hvb; generalize ((w4.drewN mp).setCell ⟨P, 9, none⟩ vp) = w6 at *) | (go_at_call 76; refine (tell_one HF5.out.1 HRD.out ⟨2, lt0, nm, [], []⟩ ⟨hnb, bd_nil, fun a ha => by cases ha⟩ (.slice none 0 0) (World.ownsRow_nil _ _ _ _)).mono ?_; rintro e w7 ⟨rfl, v7, F7, f7⟩; have HF7 : Hid _ := And.intro F7 f7; clear F7 f7))
                go_end0
                rw [HC.out, HB.out]
                show Rd _ _ _ _ _ _ ((signS l 62 k2).q _) _ _
                rw [HS.out]
                exact ⟨rfl, v7, HF7.out.1, (Fr.scan hgA).trans ((((Fr.refl P wc _).drewN m2).trans (Fr.scan hg3)).trans ((Fr.scan hg4).trans (HF5.out.2.trans HF7.out.2)))⟩
              · have HS : Hid _ := hs
                clear hs
                go_wp2_with (first | (go_at_call 57; refine (ended_t HA.out.inn).mono ?_; rintro e w2 ⟨rfl, m2, rfl⟩) | (go_at_call 81; refine (hasPre_any hwb.1 hnb hwb.2 hnl).mono ?_; rw [hpr]; rintro e w2 ⟨rfl, rfl⟩) | (go_at_call 51; refine (scan_ok (blanks_s (HA.out.inn.drewN m2)) HB.out).mono ?_; rintro e w3 ⟨rfl, hg3, hi3⟩) | (go_at_call 56; refine (scan_bad (sign_s 62 hi3) HS.out).mono ?_; rintro e w4 ⟨rfl, hg4, kk, hp⟩))
                refine ⟨rfl, ?_⟩
                rw [HC.out, HB.out]
                show Rd _ _ _ _ _ _ ((signS l 62 k2).q _) _ _
                rw [HS.out]
                exact rd_scan_bad (grownBy_trans hgA (grownBy_trans (gd m2) (grownBy_trans hg3 hg4))) hp
            · have HB : Hid _ := hb
              clear hb
              go_wp2_with (first | (go_at_call 57; refine (ended_t HA.out.inn).mono ?_; rintro e w2 ⟨rfl, m2, rfl⟩) | (go_at_call 81; refine (hasPre_any hwb.1 hnb hwb.2 hnl).mono ?_; rw [hpr]; rintro e w2 ⟨rfl, rfl⟩) | (go_at_call 51; refine (scan_bad (blanks_s (HA.out.inn.drewN m2)) HB.out).mono ?_; rintro e w3 ⟨rfl, hg3, kk, hp⟩))
              refine ⟨rfl, ?_⟩
              rw [HC.out, HB.out]
              exact rd_scan_bad (grownBy_trans hgA (grownBy_trans (gd m2) hg3)) hp
  · rw [← h.lt'] at hn
    have HH : Hid _ := h
    clear h
    go_enter Tryd.func63, Tryd.ntmps63
    go_wp2_with fail
    go_region_with (first | (go_at_call 72; refine (scan_bad (name_s (HH.out.inn.drewN _) hT') hn).mono ?_; rintro e w1 ⟨rfl, hg1, kk, hp⟩; refine dmy w1 ⟨rfl, rd_scan_bad (grownBy_trans (gd 1) hg1) hp⟩ ?_) | (go_at_call 80; refine (top_any (w := w.drewN 1) HH.out.op hol (by omega)).mono ?_; rintro e w2 ⟨rfl, rfl⟩))
    all_goals trivial
end Go.Proofs.YtjcgnbmpnaapdaaDoor
