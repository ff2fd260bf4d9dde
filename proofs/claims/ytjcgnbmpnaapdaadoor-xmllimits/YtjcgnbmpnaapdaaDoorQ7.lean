/- The contract of endTag. -/
import Derived.Test.YtjcgnbmpnaapdaaDoorTel2
import Derived.Test.YtjcgnbmpnaapdaaDoorQ6
import Derived.Deep.DeepCutAuto
namespace Go.Proofs.YtjcgnbmpnaapdaaDoor
open Go.RowKit
set_option linter.unusedVariables false

theorem rd_scan_bad {B P : Nat} {w w' : World} {v : PV} {l : Bs} {L : Lm} {p er : Int} {k : Int} (hg : w.grownBy w' (some P)) (hp : PS w' P { v with k := k }) : Rd B P w v l L (.bad p er) (.panicked (flt p er)) w' :=
  ⟨rfl, _, hp, rfl, Fr.scan hg⟩
theorem bd_take {l : Bs} (h : ∀ i, 0 ≤ l.getD i 0 ∧ l.getD i 0 < 256) (n : Nat) : ∀ i, 0 ≤ (l.take n).getD i 0 ∧ (l.take n).getD i 0 < 256 := by
  intro i
  rw [List.getD_eq_getElem?_getD, List.getElem?_take]
  split
  · have := h i; rw [List.getD_eq_getElem?_getD] at this; exact this
  · simp

/-- Where a way through a region has come to its end: nothing is left of it. -/
theorem dmy {G : Prop} (w : World) (hG : G) (_ : wpAny Tryd.prog .any #[] (fun _ _ _ => True) 0 #[] ⟨#[], []⟩ w) : G := hG
theorem Full.rdlt {B P : Nat} {w : World} {v : PV} {l : Bs} {L : Lm} {s : S} (h : Full B P w v l L s) : v.ready.ownBlock ≠ some w.heap.size := by
  obtain ⟨xs, hr, _⟩ := h.rd
  intro e
  have := (hr.lt _ e).2
  omega
theorem Full.drewN {B P : Nat} {w : World} {v : PV} {l : Bs} {L : Lm} {s : S} (h : Full B P w v l L s) (m : Nat) : Full B P (w.drewN m) v l L s := (h.below (below_drewN (Below.refl _ _) m)).1
theorem Fr.drewN {P : Nat} {w w' : World} {v v' : PV} (h : Fr P w w' v v') (m : Nat) : Fr P w (w'.drewN m) v v' := ⟨h.os, h.tape, h.output, h.size, h.blk, h.nt, h.nr, h.no⟩
abbrev evO (e : Ev) (sv : Value) : Obj := .cells #[.int .i64 e.kind, .int .i64 e.place, .string (sb e.name), .string (sb e.text), sv] 35
theorem tell_one {B P : Nat} {w : World} {v : PV} {l : Bs} {L : Lm} {s : S} (h : Full B P w v l L s) (hrd : s.ready = []) (e : Ev) (hok : EvOk e) (sv : Value) (hAR : AR B w sv e.attrs) :
    Calls Tryd.prog 76 #[pp P, .slice (some ⟨w.heap.size, 0, none⟩) 1 1] (w.alloc (evO e sv)) fun x w' => x = .returned (.tuple #[]) ∧ ∃ v', Full B P w' v' l L (tellS s [e]) ∧ Fr P w w' v v' := by
  obtain ⟨h1, f1⟩ := h.below ((Below.refl _ _).alloc (Nat.le_refl _) (evO e sv))
  refine (tell_any h1 (news := evHead e sv) (tag := [e]) (m := 1) (tg := w.heap.size) (new_cells w _ 35) ⟨sv, [], rfl, ⟨hAR.alloc _, hok⟩, rfl⟩ rfl (by decide) (by decide) hrd ?_ h.rdlt (by simp)).mono ?_
  · have := h.inn.ps.lt; omega
  · rintro x w' ⟨rfl, v', hF, hf⟩
    exact ⟨rfl, v', hF, f1.trans hf⟩
abbrev evO2 (e : Ev) (sv : Value) (e2 : Ev) (sv2 : Value) : Obj := .cells #[.int .i64 e.kind, .int .i64 e.place, .string (sb e.name), .string (sb e.text), sv, .int .i64 e2.kind, .int .i64 e2.place, .string (sb e2.name), .string (sb e2.text), sv2] 35
theorem tell_two {B P : Nat} {w : World} {v : PV} {l : Bs} {L : Lm} {s : S} (h : Full B P w v l L s) (hrd : s.ready = []) (e e2 : Ev) (hok : EvOk e) (hok2 : EvOk e2) (sv sv2 : Value) (hAR : AR B w sv e.attrs) (hAR2 : AR B w sv2 e2.attrs) :
    Calls Tryd.prog 76 #[pp P, .slice (some ⟨w.heap.size, 0, none⟩) 2 2] (w.alloc (evO2 e sv e2 sv2)) fun x w' => x = .returned (.tuple #[]) ∧ ∃ v', Full B P w' v' l L (tellS s [e, e2]) ∧ Fr P w w' v v' := by
  obtain ⟨h1, f1⟩ := h.below ((Below.refl _ _).alloc (Nat.le_refl _) (evO2 e sv e2 sv2))
  refine (tell_any h1 (news := evHead e sv ++ evHead e2 sv2) (tag := [e, e2]) (m := 2) (tg := w.heap.size) (new_cells w _ 35) ⟨sv, evHead e2 sv2, rfl, ⟨hAR.alloc _, hok⟩, ⟨sv2, [], rfl, ⟨hAR2.alloc _, hok2⟩, rfl⟩⟩ rfl (by decide) (by decide) hrd ?_ h.rdlt (by simp)).mono ?_
  · have := h.inn.ps.lt; omega
  · rintro x w' ⟨rfl, v', hF, hf⟩
    exact ⟨rfl, v', hF, f1.trans hf⟩
theorem sb_extract (a : Bs) (n : Nat) : (sb a).extract 0 n = sb (a.take n) := by
  apply ByteArray.ext
  simp [sb, ByteArray.data_extract]
theorem hasPre_any {a b : Bs} {w : World} (ha : ∀ i, 0 ≤ a.getD i 0 ∧ a.getD i 0 < 256) (hb : ∀ i, 0 ≤ b.getD i 0 ∧ b.getD i 0 < 256) (hla : a.length ≤ 65536) (hlb : b.length ≤ 65536) :
    Calls Tryd.prog 81 #[.string (sb a), .string (sb b)] w fun e w' => e = .returned (.bool (a.take b.length == b)) ∧ w' = w := by
  have hsa := sb_size a
  have hsb := sb_size b
  by_cases hle : b.length ≤ a.length
  · have hle' : (b.length : Int) ≤ (a.length : Int) := by omega
    go_enter Tryd.func81, Tryd.ntmps81
    go_wp2
    go_ret
    refine ⟨ret_bool ?_, rfl⟩
    rw [sb_extract]
    exact sb_beq (bd_take ha _) hb
  · have hle' : ¬ (b.length : Int) ≤ (a.length : Int) := by omega
    have HF : Hid ((a.take b.length == b) = false) := by
      rw [Hid, beq_eq_false_iff_ne]
      intro e
      have := congrArg List.length e
      simp at this
      omega
    go_enter Tryd.func81, Tryd.ntmps81
    go_wp2
    go_ret
    exact ⟨ret_bool HF.out.symm, rfl⟩
set_option maxHeartbeats 1600000 in
theorem end_s {B P : Nat} {w : World} {v : PV} {l : Bs} {L : Lm} {s : S} (lt0 : Nat) (h : Full B P w v l L s) (ho : s.op ≠ []) (hrd : s.ready = []) :
    Calls Tryd.prog 63 #[pp P, .int .i64 lt0] w (Rd B P w v l L (endS l L s lt0 s.k)) := by
  have c9 : w.cell? ⟨P, 9, none⟩ = some v.op := h.inn.ps.cell 9
  have hT := h.bT
  have hT' : 0 ≤ v.t ∧ v.t ≤ 65536 := by rw [h.lt']; omega
  have hol : 0 < s.op.length := List.length_pos_iff.2 ho
  have hDl := h.opl
  have hD := h.bD
  have hol2 : s.op.length ≤ 65536 := by omega
  have hdl : ((s.op.dropLast.length : Nat) : Int) ≤ L.D := by simp; omega
  rw [endS]
  rcases hn : nameS l L.T s.k with ⟨nm, k1⟩ | ⟨p, er⟩
  · rw [← h.lt'] at hn
    show Calls Tryd.prog 63 _ w (Rd B P w v l L (if nm ≠ s.op.getLastD [] ∧ ¬ (k1 = l.length ∧ (s.op.getLastD []).take nm.length = nm) then Q.bad lt0 2 else (blanksS l k1).q fun _ k2 => (signS l 62 k2).q fun _ k3 => .go (tellS { s with k := k3, op := s.op.dropLast } [⟨2, lt0, nm, [], []⟩])))
    have hnb : Bd nm := by rw [(nameS_ok hn).1]; exact sub_bd h.inn.br.2
    have hnl : nm.length ≤ 65536 := by rw [(nameS_ok hn).1]; have := sub_len' l s.k k1; have := h.inn.ll; omega
    have hwm : s.op.getLastD [] ∈ s.op := by
      cases hso : s.op with
      | nil => exact absurd hso ho
      | cons a t => rw [List.getLastD_cons]; exact List.getLastD_mem_cons
    have hwb := h.ob _ hwm
    generalize hw : s.op.getLastD [] = want at *
    have HW : Hid _ := hw
    have hbeq := sb_beq hnb hwb.1
    have HH : Hid _ := h
    have HNM : Hid _ := hn
    clear h hw hn hwm
    obtain ⟨X, hX⟩ : ∃ X, X = (if nm ≠ want ∧ ¬ (k1 = l.length ∧ want.take nm.length = nm) then Q.bad lt0 2 else (blanksS l k1).q fun _ k2 => (signS l 62 k2).q fun _ k3 => .go (tellS { s with k := k3, op := s.op.dropLast } [⟨2, lt0, nm, [], []⟩])) := ⟨_, rfl⟩
    rw [← hX]
    have HX : Hid _ := hX
    clear hX
    go_enter Tryd.func63, Tryd.ntmps63
    go_upto_region 0 with fail
    go_cut [4, 5] (fun v4 v5 wx => v4 = .string (sb nm) ∧ v5 = .string (sb want) ∧ Full B P wx { v with k := (k1 : Int) } l L { s with k := k1 } ∧ w.grownBy wx (some P))
    case first =>
      go_region_with (first | (go_at_call 72; refine (scan_ok (name_s (HH.out.inn.drewN _) hT') HNM.out).mono ?_; rintro e w1 ⟨rfl, hg1, hi1⟩; have c9' : w1.cell? ⟨P, 9, none⟩ = some v.op := hi1.ps.cell 9; have HG : Hid _ := hg1; have HI : Hid _ := hi1; clear hg1 hi1) | (go_at_call 80; refine (top_any (w := w.drewN 1) HH.out.op hol (by omega)).mono ?_; rw [HW.out]; rintro e w2 ⟨rfl, rfl⟩) | (go_at_call 80; refine (top_any (B := B) ((ky_ps HH.out.inn.ps (grownBy_trans (gd 1) HG.out) (by decide)).own HH.out.op) hol (by omega)).mono ?_; rw [HW.out]; rintro e w2 ⟨rfl, rfl⟩))
      all_goals
        go_wp2_with fail
        go_meet
        exact ⟨rfl, rfl, HH.out.scan (grownBy_trans (gd 1) HG.out) HI.out, grownBy_trans (gd 1) HG.out⟩
    case rest =>
      obtain ⟨rfl, rfl, hA, hgA⟩ := hcut
      have HA : Hid _ := hA
      have HRD : Hid _ := hrd
      clear hA hrd
      by_cases hnw : nm = want
      · have hq : ((sb nm).toList == (sb want).toList) = true := by rw [hbeq, hnw]; simp
        have hq' : ((sb nm).toList != (sb want).toList) = false := by rw [bne, hq]; rfl
        have HC : Hid (X = (blanksS l k1).q fun _ k2 => (signS l 62 k2).q fun _ k3 => .go (tellS { s with k := k3, op := s.op.dropLast } [⟨2, lt0, nm, [], []⟩])) := HX.out.trans (if_neg (fun x => x.1 hnw))
        clear hbeq hnw hq'
        cases hed : (k1 == l.length)
        · skip
          rcases hb : blanksS l k1 with ⟨_, k2⟩ | ⟨p, er⟩
          · have HB : Hid _ := hb
            clear hb
            rcases hs : signS l 62 k2 with ⟨_, k3⟩ | ⟨p, er⟩
            · have HS : Hid _ := hs
              clear hs
              go_wp2_with (first | (go_at_call 57; refine (ended_t HA.out.inn).mono ?_; rintro e w2 ⟨rfl, m2, rfl⟩) | (go_at_call 51; refine (scan_ok (blanks_s (HA.out.inn.drewN m2)) HB.out).mono ?_; rintro e w3 ⟨rfl, hg3, hi3⟩) | (go_at_call 56; refine (scan_ok (sign_s 62 hi3) HS.out).mono ?_; rintro e w4 ⟨rfl, hg4, hi4⟩; have F4 := ((HA.out.drewN m2).scan hg3 hi3).scan hg4 hi4; have c9 : w4.cell? ⟨P, 9, none⟩ = some v.op := hi4.ps.cell 9; have HF4 : Hid _ := F4; clear F4) | (go_at_call 82; refine (pop_any (O := P) (f := 9) (HF4.out.inn.ps.cell 9) (HF4.out.inn.ps.froz 9) HF4.out.op hol hol2).mono ?_; rintro e w5 ⟨rfl, vp, mp, hNR, hvb, rfl⟩; have F5 := Full.openv (w3 := w4.drewN mp) HF4.out (grownBy_drewN _ _ _) hNR hdl (fun n hn => HF4.out.ob n (List.dropLast_subset _ hn)) (fun k e => .inl (hvb ▸ e)); have HF5 : Hid _ := F5; clear F5 hNR hvb; generalize ((w4.drewN mp).setCell ⟨P, 9, none⟩ vp) = w6 at *) | (go_at_call 76; refine (tell_one HF5.out.1 HRD.out ⟨2, lt0, nm, [], []⟩ ⟨hnb, bd_nil, fun a ha => by cases ha⟩ (.slice none 0 0) (World.ownsRow_nil _ _ _ _)).mono ?_; rintro e w7 ⟨rfl, v7, F7, f7⟩; have HF7 : Hid _ := And.intro F7 f7; clear F7 f7))
              go_end0
              rw [HC.out, HB.out]
              show Rd _ _ _ _ _ _ ((signS l 62 k2).q _) _ _
              rw [HS.out]
              exact ⟨rfl, v7, HF7.out.1, (Fr.scan hgA).trans ((((Fr.refl P wc _).drewN m2).trans (Fr.scan hg3)).trans ((Fr.scan hg4).trans (HF5.out.2.trans HF7.out.2)))⟩
            · have HS : Hid _ := hs
              clear hs
              go_wp2_with (first | (go_at_call 57; refine (ended_t HA.out.inn).mono ?_; rintro e w2 ⟨rfl, m2, rfl⟩) | (go_at_call 51; refine (scan_ok (blanks_s (HA.out.inn.drewN m2)) HB.out).mono ?_; rintro e w3 ⟨rfl, hg3, hi3⟩) | (go_at_call 56; refine (scan_bad (sign_s 62 hi3) HS.out).mono ?_; rintro e w4 ⟨rfl, hg4, kk, hp⟩))
              refine ⟨rfl, ?_⟩
              rw [HC.out, HB.out]
              show Rd _ _ _ _ _ _ ((signS l 62 k2).q _) _ _
              rw [HS.out]
              exact rd_scan_bad (grownBy_trans hgA (grownBy_trans (gd m2) (grownBy_trans hg3 hg4))) hp
          · have HB : Hid _ := hb
            clear hb
            go_wp2_with (first | (go_at_call 57; refine (ended_t HA.out.inn).mono ?_; rintro e w2 ⟨rfl, m2, rfl⟩) | (go_at_call 51; refine (scan_bad (blanks_s (HA.out.inn.drewN m2)) HB.out).mono ?_; rintro e w3 ⟨rfl, hg3, kk, hp⟩))
            refine ⟨rfl, ?_⟩
            rw [HC.out, HB.out]
            exact rd_scan_bad (grownBy_trans hgA (grownBy_trans (gd m2) hg3)) hp
        · cases hpr : (want.take nm.length == nm)
          · skip
            rcases hb : blanksS l k1 with ⟨_, k2⟩ | ⟨p, er⟩
            · have HB : Hid _ := hb
              clear hb
              rcases hs : signS l 62 k2 with ⟨_, k3⟩ | ⟨p, er⟩
              · have HS : Hid _ := hs
                clear hs
                go_wp2_with (first | (go_at_call 57; refine (ended_t HA.out.inn).mono ?_; rintro e w2 ⟨rfl, m2, rfl⟩) | (go_at_call 81; refine (hasPre_any hwb.1 hnb hwb.2 hnl).mono ?_; rw [hpr]; rintro e w2 ⟨rfl, rfl⟩) | (go_at_call 51; refine (scan_ok (blanks_s (HA.out.inn.drewN m2)) HB.out).mono ?_; rintro e w3 ⟨rfl, hg3, hi3⟩) | (go_at_call 56; refine (scan_ok (sign_s 62 hi3) HS.out).mono ?_; rintro e w4 ⟨rfl, hg4, hi4⟩; have F4 := ((HA.out.drewN m2).scan hg3 hi3).scan hg4 hi4; have c9 : w4.cell? ⟨P, 9, none⟩ = some v.op := hi4.ps.cell 9; have HF4 : Hid _ := F4; clear F4) | (go_at_call 82; refine (pop_any (O := P) (f := 9) (HF4.out.inn.ps.cell 9) (HF4.out.inn.ps.froz 9) HF4.out.op hol hol2).mono ?_; rintro e w5 ⟨rfl, vp, mp, hNR, hvb, rfl⟩; have F5 := Full.openv (w3 := w4.drewN mp) HF4.out (grownBy_drewN _ _ _) hNR hdl (fun n hn => HF4.out.ob n (List.dropLast_subset _ hn)) (fun k e => .inl (hvb ▸ e)); have HF5 : Hid _ := F5; clear F5 hNR hvb; generalize ((w4.drewN mp).setCell ⟨P, 9, none⟩ vp) = w6 at *) | (go_at_call 76; refine (tell_one HF5.out.1 HRD.out ⟨2, lt0, nm, [], []⟩ ⟨hnb, bd_nil, fun a ha => by cases ha⟩ (.slice none 0 0) (World.ownsRow_nil _ _ _ _)).mono ?_; rintro e w7 ⟨rfl, v7, F7, f7⟩; have HF7 : Hid _ := And.intro F7 f7; clear F7 f7))
                go_end0
                rw [HC.out, HB.out]
                show Rd _ _ _ _ _ _ ((signS l 62 k2).q _) _ _
                rw [HS.out]
                exact ⟨rfl, v7, HF7.out.1, (Fr.scan hgA).trans ((((Fr.refl P wc _).drewN m2).trans (Fr.scan hg3)).trans ((Fr.scan hg4).trans (HF5.out.2.trans HF7.out.2)))⟩
              · have HS : Hid _ := hs
                clear hs
                go_wp2_with (first | (go_at_call 57; refine (ended_t HA.out.inn).mono ?_; rintro e w2 ⟨rfl, m2, rfl⟩) | (go_at_call 81; refine (hasPre_any hwb.1 hnb hwb.2 hnl).mono ?_; rw [hpr]; rintro e w2 ⟨rfl, rfl⟩) | (go_at_call 51; refine (scan_ok (blanks_s (HA.out.inn.drewN m2)) HB.out).mono ?_; rintro e w3 ⟨rfl, hg3, hi3⟩) | (go_at_call 56; refine (scan_bad (sign_s 62 hi3) HS.out).mono ?_; rintro e w4 ⟨rfl, hg4, kk, hp⟩))
                refine ⟨rfl, ?_⟩
                rw [HC.out, HB.out]
                show Rd _ _ _ _ _ _ ((signS l 62 k2).q _) _ _
                rw [HS.out]
                exact rd_scan_bad (grownBy_trans hgA (grownBy_trans (gd m2) (grownBy_trans hg3 hg4))) hp
            · have HB : Hid _ := hb
              clear hb
              go_wp2_with (first | (go_at_call 57; refine (ended_t HA.out.inn).mono ?_; rintro e w2 ⟨rfl, m2, rfl⟩) | (go_at_call 81; refine (hasPre_any hwb.1 hnb hwb.2 hnl).mono ?_; rw [hpr]; rintro e w2 ⟨rfl, rfl⟩) | (go_at_call 51; refine (scan_bad (blanks_s (HA.out.inn.drewN m2)) HB.out).mono ?_; rintro e w3 ⟨rfl, hg3, kk, hp⟩))
              refine ⟨rfl, ?_⟩
              rw [HC.out, HB.out]
              exact rd_scan_bad (grownBy_trans hgA (grownBy_trans (gd m2) hg3)) hp
          · skip
            rcases hb : blanksS l k1 with ⟨_, k2⟩ | ⟨p, er⟩
            · have HB : Hid _ := hb
              clear hb
              rcases hs : signS l 62 k2 with ⟨_, k3⟩ | ⟨p, er⟩
              · have HS : Hid _ := hs
                clear hs
                go_wp2_with (first | (go_at_call 57; refine (ended_t HA.out.inn).mono ?_; rintro e w2 ⟨rfl, m2, rfl⟩) | (go_at_call 81; refine (hasPre_any hwb.1 hnb hwb.2 hnl).mono ?_; rw [hpr]; rintro e w2 ⟨rfl, rfl⟩) | (go_at_call 51; refine (scan_ok (blanks_s (HA.out.inn.drewN m2)) HB.out).mono ?_; rintro e w3 ⟨rfl, hg3, hi3⟩) | (go_at_call 56; refine (scan_ok (sign_s 62 hi3) HS.out).mono ?_; rintro e w4 ⟨rfl, hg4, hi4⟩; have F4 := ((HA.out.drewN m2).scan hg3 hi3).scan hg4 hi4; have c9 : w4.cell? ⟨P, 9, none⟩ = some v.op := hi4.ps.cell 9; have HF4 : Hid _ := F4; clear F4) | (go_at_call 82; refine (pop_any (O := P) (f := 9) (HF4.out.inn.ps.cell 9) (HF4.out.inn.ps.froz 9) HF4.out.op hol hol2).mono ?_; rintro e w5 ⟨rfl, vp, mp, hNR, hvb, rfl⟩; have F5 := Full.openv (w3 := w4.drewN mp) HF4.out (grownBy_drewN _ _ _) hNR hdl (fun n hn => HF4.out.ob n (List.dropLast_subset _ hn)) (fun k e => .inl (hvb ▸ e)); have HF5 : Hid _ := F5; clear F5 hNR hvb; generalize ((w4.drewN mp).setCell ⟨P, 9, none⟩ vp) = w6 at *) | (go_at_call 76; refine (tell_one HF5.out.1 HRD.out ⟨2, lt0, nm, [], []⟩ ⟨hnb, bd_nil, fun a ha => by cases ha⟩ (.slice none 0 0) (World.ownsRow_nil _ _ _ _)).mono ?_; rintro e w7 ⟨rfl, v7, F7, f7⟩; have HF7 : Hid _ := And.intro F7 f7; clear F7 f7))
                go_end0
                rw [HC.out, HB.out]
                show Rd _ _ _ _ _ _ ((signS l 62 k2).q _) _ _
                rw [HS.out]
                exact ⟨rfl, v7, HF7.out.1, (Fr.scan hgA).trans ((((Fr.refl P wc _).drewN m2).trans (Fr.scan hg3)).trans ((Fr.scan hg4).trans (HF5.out.2.trans HF7.out.2)))⟩
              · have HS : Hid _ := hs
                clear hs
                go_wp2_with (first | (go_at_call 57; refine (ended_t HA.out.inn).mono ?_; rintro e w2 ⟨rfl, m2, rfl⟩) | (go_at_call 81; refine (hasPre_any hwb.1 hnb hwb.2 hnl).mono ?_; rw [hpr]; rintro e w2 ⟨rfl, rfl⟩) | (go_at_call 51; refine (scan_ok (blanks_s (HA.out.inn.drewN m2)) HB.out).mono ?_; rintro e w3 ⟨rfl, hg3, hi3⟩) | (go_at_call 56; refine (scan_bad (sign_s 62 hi3) HS.out).mono ?_; rintro e w4 ⟨rfl, hg4, kk, hp⟩))
                refine ⟨rfl, ?_⟩
                rw [HC.out, HB.out]
                show Rd _ _ _ _ _ _ ((signS l 62 k2).q _) _ _
                rw [HS.out]
                exact rd_scan_bad (grownBy_trans hgA (grownBy_trans (gd m2) (grownBy_trans hg3 hg4))) hp
            · have HB : Hid _ := hb
              clear hb
              go_wp2_with (first | (go_at_call 57; refine (ended_t HA.out.inn).mono ?_; rintro e w2 ⟨rfl, m2, rfl⟩) | (go_at_call 81; refine (hasPre_any hwb.1 hnb hwb.2 hnl).mono ?_; rw [hpr]; rintro e w2 ⟨rfl, rfl⟩) | (go_at_call 51; refine (scan_bad (blanks_s (HA.out.inn.drewN m2)) HB.out).mono ?_; rintro e w3 ⟨rfl, hg3, kk, hp⟩))
              refine ⟨rfl, ?_⟩
              rw [HC.out, HB.out]
              exact rd_scan_bad (grownBy_trans hgA (grownBy_trans (gd m2) hg3)) hp
      · have hq : ((sb nm).toList == (sb want).toList) = false := by rw [hbeq]; simp [hnw]
        have hq' : ((sb nm).toList != (sb want).toList) = true := by rw [bne, hq]; rfl
        clear hbeq hq'
        cases hed : (k1 == l.length)
        · have HC : Hid (X = .bad lt0 2) := HX.out.trans (if_pos ⟨hnw, fun x => by rw [x.1] at hed; simp at hed⟩)
          clear hnw
          go_wp2_with (first | (go_at_call 57; refine (ended_t HA.out.inn).mono ?_; rintro e w2 ⟨rfl, m2, rfl⟩) | (go_at_call 47; refine (fail_any _ _ _).mono ?_; rintro e w' ⟨rfl, rfl⟩))
          refine ⟨rfl, ?_⟩
          rw [HC.out]
          exact rd_scan_bad (grownBy_trans hgA (gd m2)) (HA.out.drewN m2).inn.ps
        · cases hpr : (want.take nm.length == nm)
          · have HC : Hid (X = .bad lt0 2) := HX.out.trans (if_pos ⟨hnw, fun x => by rw [x.2] at hpr; simp at hpr⟩)
            clear hnw
            go_wp2_with (first | (go_at_call 57; refine (ended_t HA.out.inn).mono ?_; rintro e w2 ⟨rfl, m2, rfl⟩) | (go_at_call 81; refine (hasPre_any hwb.1 hnb hwb.2 hnl).mono ?_; rw [hpr]; rintro e w2 ⟨rfl, rfl⟩) | (go_at_call 47; refine (fail_any _ _ _).mono ?_; rintro e w' ⟨rfl, rfl⟩))
            refine ⟨rfl, ?_⟩
            rw [HC.out]
            exact rd_scan_bad (grownBy_trans hgA (gd m2)) (HA.out.drewN m2).inn.ps
          · have HC : Hid (X = (blanksS l k1).q fun _ k2 => (signS l 62 k2).q fun _ k3 => .go (tellS { s with k := k3, op := s.op.dropLast } [⟨2, lt0, nm, [], []⟩])) := HX.out.trans (if_neg (fun x => x.2 ⟨by simpa using hed, by simpa using hpr⟩))
            clear hnw
            rcases hb : blanksS l k1 with ⟨_, k2⟩ | ⟨p, er⟩
            · have HB : Hid _ := hb
              clear hb
              rcases hs : signS l 62 k2 with ⟨_, k3⟩ | ⟨p, er⟩
              · have HS : Hid _ := hs
                clear hs
                go_wp2_with (first | (go_at_call 57; refine (ended_t HA.out.inn).mono ?_; rintro e w2 ⟨rfl, m2, rfl⟩) | (go_at_call 81; refine (hasPre_any hwb.1 hnb hwb.2 hnl).mono ?_; rw [hpr]; rintro e w2 ⟨rfl, rfl⟩) | (go_at_call 51; refine (scan_ok (blanks_s (HA.out.inn.drewN m2)) HB.out).mono ?_; rintro e w3 ⟨rfl, hg3, hi3⟩) | (go_at_call 56; refine (scan_ok (sign_s 62 hi3) HS.out).mono ?_; rintro e w4 ⟨rfl, hg4, hi4⟩; have F4 := ((HA.out.drewN m2).scan hg3 hi3).scan hg4 hi4; have c9 : w4.cell? ⟨P, 9, none⟩ = some v.op := hi4.ps.cell 9; have HF4 : Hid _ := F4; clear F4) | (go_at_call 82; refine (pop_any (O := P) (f := 9) (HF4.out.inn.ps.cell 9) (HF4.out.inn.ps.froz 9) HF4.out.op hol hol2).mono ?_; rintro e w5 ⟨rfl, vp, mp, hNR, hvb, rfl⟩; have F5 := Full.openv (w3 := w4.drewN mp) HF4.out (grownBy_drewN _ _ _) hNR hdl (fun n hn => HF4.out.ob n (List.dropLast_subset _ hn)) (fun k e => .inl (hvb ▸ e)); have HF5 : Hid _ := F5; clear F5 hNR hvb; generalize ((w4.drewN mp).setCell ⟨P, 9, none⟩ vp) = w6 at *) | (go_at_call 76; refine (tell_one HF5.out.1 HRD.out ⟨2, lt0, nm, [], []⟩ ⟨hnb, bd_nil, fun a ha => by cases ha⟩ (.slice none 0 0) (World.ownsRow_nil _ _ _ _)).mono ?_; rintro e w7 ⟨rfl, v7, F7, f7⟩; have HF7 : Hid _ := And.intro F7 f7; clear F7 f7))
                go_end0
                rw [HC.out, HB.out]
                show Rd _ _ _ _ _ _ ((signS l 62 k2).q _) _ _
                rw [HS.out]
                exact ⟨rfl, v7, HF7.out.1, (Fr.scan hgA).trans ((((Fr.refl P wc _).drewN m2).trans (Fr.scan hg3)).trans ((Fr.scan hg4).trans (HF5.out.2.trans HF7.out.2)))⟩
              · have HS : Hid _ := hs
                clear hs
                go_wp2_with (first | (go_at_call 57; refine (ended_t HA.out.inn).mono ?_; rintro e w2 ⟨rfl, m2, rfl⟩) | (go_at_call 81; refine (hasPre_any hwb.1 hnb hwb.2 hnl).mono ?_; rw [hpr]; rintro e w2 ⟨rfl, rfl⟩) | (go_at_call 51; refine (scan_ok (blanks_s (HA.out.inn.drewN m2)) HB.out).mono ?_; rintro e w3 ⟨rfl, hg3, hi3⟩) | (go_at_call 56; refine (scan_bad (sign_s 62 hi3) HS.out).mono ?_; rintro e w4 ⟨rfl, hg4, kk, hp⟩))
                refine ⟨rfl, ?_⟩
                rw [HC.out, HB.out]
                show Rd _ _ _ _ _ _ ((signS l 62 k2).q _) _ _
                rw [HS.out]
                exact rd_scan_bad (grownBy_trans hgA (grownBy_trans (gd m2) (grownBy_trans hg3 hg4))) hp
            · have HB : Hid _ := hb
              clear hb
              go_wp2_with (first | (go_at_call 57; refine (ended_t HA.out.inn).mono ?_; rintro e w2 ⟨rfl, m2, rfl⟩) | (go_at_call 81; refine (hasPre_any hwb.1 hnb hwb.2 hnl).mono ?_; rw [hpr]; rintro e w2 ⟨rfl, rfl⟩) | (go_at_call 51; refine (scan_bad (blanks_s (HA.out.inn.drewN m2)) HB.out).mono ?_; rintro e w3 ⟨rfl, hg3, kk, hp⟩))
              refine ⟨rfl, ?_⟩
              rw [HC.out, HB.out]
              exact rd_scan_bad (grownBy_trans hgA (grownBy_trans (gd m2) hg3)) hp
  · rw [← h.lt'] at hn
    have HH : Hid _ := h
    clear h
    go_enter Tryd.func63, Tryd.ntmps63
    go_wp2_with fail
    go_region_with (first | (go_at_call 72; refine (scan_bad (name_s (HH.out.inn.drewN _) hT') hn).mono ?_; rintro e w1 ⟨rfl, hg1, kk, hp⟩; refine dmy w1 ⟨rfl, rd_scan_bad (grownBy_trans (gd 1) hg1) hp⟩ ?_) | (go_at_call 80; refine (top_any (w := w.drewN 1) HH.out.op hol (by omega)).mono ?_; rintro e w2 ⟨rfl, rfl⟩))
    all_goals trivial
end Go.Proofs.YtjcgnbmpnaapdaaDoor
