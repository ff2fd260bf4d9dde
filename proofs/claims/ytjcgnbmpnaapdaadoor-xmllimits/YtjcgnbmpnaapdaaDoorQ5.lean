/- The contract of declared. -/
import Derived.Test.YtjcgnbmpnaapdaaDoorQ4
import Derived.Lib.SlBytesConst
namespace Go.Proofs.YtjcgnbmpnaapdaaDoor
open Go.RowKit
set_option linter.unusedVariables false

theorem equal_any {w : World} {v1 v2 : Value} {l1 l2 : Bs} (h1 : (convert 25 9 v1).run Tryd.prog w = .ok (.string (sb l1)) w) (h2 : (convert 25 9 v2).run Tryd.prog w = .ok (.string (sb l2)) w)
    (b1 : ∀ i, 0 ≤ l1.getD i 0 ∧ l1.getD i 0 < 256) (b2 : ∀ i, 0 ≤ l2.getD i 0 ∧ l2.getD i 0 < 256) : Calls Tryd.prog 68 #[v1, v2] w fun e w' => e = .returned (.bool (l1 == l2)) ∧ w' = w := by
  have HB : Hid _ := sb_beq b1 b2
  go_enter Tryd.func68, Tryd.ntmps68
  go_wp2
  go_ret
  exact ⟨ret_bool HB.out, rfl⟩
/-- A constant row of bytes, as it is laid. -/
def cw (w : World) (l : Bs) : World := w.alloc (.cells (l.map (Value.int .u8)).toArray 5 (l.length, l.length + 1))
theorem cw_below (w : World) (l : Bs) : Below w.heap.size w (cw w l) := (Below.refl _ _).alloc (Nat.le_refl _) _
theorem cw_bts (w : World) (l : Bs) (hl : ∀ i, 0 ≤ l.getD i 0 ∧ l.getD i 0 < 256) : Bts (cw w l) (some ⟨w.heap.size, 0, none⟩) l := by
  refine ⟨hl, .inr ⟨_, _, rfl, fun i hi => ?_⟩⟩
  rw [Nat.zero_add]
  refine (World.cell?_alloc_mark w (l.map (Value.int .u8)).toArray 5 (l.length, l.length + 1) i).trans ?_
  simp [List.getD_eq_getElem?_getD, hi]
theorem pre_bd : ∀ i, 0 ≤ ([60, 63, 120, 109, 108] : Bs).getD i 0 ∧ ([60, 63, 120, 109, 108] : Bs).getD i 0 < 256 := by
  intro i
  match i with
  | 0 => decide
  | 1 => decide
  | 2 => decide
  | 3 => decide
  | 4 => decide
  | n + 5 => simp
abbrev EqC (g cap N : Nat) (w : World) (b : Bool) : Prop := Calls Tryd.prog 68 #[.slice (some ⟨g, 0, none⟩) 5 cap, .slice (some ⟨N, 0, none⟩) 5 5] w fun e w' => e = .returned (.bool b) ∧ w' = w
set_option maxRecDepth 20000 in
theorem hasP_any {g cap N n : Nat} {w : World} {b : Bool} (hE : EqC g cap N w b) (h5 : 5 ≤ n) (hc : n ≤ cap) (hm : cap ≤ 2 ^ 63 - 1) :
    Calls Tryd.prog 69 #[.slice (some ⟨g, 0, none⟩) n cap, .slice (some ⟨N, 0, none⟩) 5 5] w fun e w' => e = .returned (.bool b) ∧ w' = w := by
  have HE : Hid _ := hE
  clear hE
  go_enter Tryd.func69, Tryd.ntmps69
  go_wp2_with (first | (go_at_call 68; refine Calls.mono HE.out ?_; rintro e w2 ⟨rfl, rfl⟩))
  go_ret
  exact ⟨rfl, rfl⟩
set_option maxRecDepth 20000 in
theorem cut_f {g cap N n : Nat} {w : World} (hE : EqC g cap N w false) (h5 : 5 ≤ n) (hc : n ≤ cap) (hm : cap ≤ 2 ^ 63 - 1) :
    Calls Tryd.prog 49 #[.slice (some ⟨g, 0, none⟩) n cap, .slice (some ⟨N, 0, none⟩) 5 5] w fun e w' => e = .returned (.tuple #[.slice (some ⟨g, 0, none⟩) n cap, .bool false]) ∧ w' = w := by
  have HE : Hid _ := hE
  clear hE
  go_enter Tryd.func49, Tryd.ntmps49
  go_wp2_with (first | (go_at_call 69; refine (hasP_any HE.out h5 hc hm).mono ?_; rintro e w2 ⟨rfl, rfl⟩))
  go_ret2
  exact ⟨rfl, rfl⟩
set_option maxRecDepth 20000 in
theorem cut_t {g cap N n : Nat} {w : World} (hE : EqC g cap N w true) (h5 : 5 ≤ n) (hc : n ≤ cap) (hm : cap ≤ 2 ^ 63 - 1) :
    Calls Tryd.prog 49 #[.slice (some ⟨g, 0, none⟩) n cap, .slice (some ⟨N, 0, none⟩) 5 5] w fun e w' => e = .returned (.tuple #[.slice (if cap = 5 then some ⟨g, 0, none⟩ else some ⟨g, 5, none⟩) (n - 5) (cap - 5), .bool true]) ∧ w' = w := by
  have HE : Hid _ := hE
  clear hE
  go_enter Tryd.func49, Tryd.ntmps49
  go_wp2_with (first | (go_at_call 69; refine (hasP_any HE.out h5 hc hm).mono ?_; rintro e w2 ⟨rfl, rfl⟩))
  all_goals
    go_ret2
    exact ⟨rfl, rfl⟩
set_option maxRecDepth 20000 in
set_option maxHeartbeats 1600000 in
theorem declared_any {P k : Nat} {v : PV} {l : Bs} {w : World} (h : In P w v l k) : Calls Tryd.prog 37 #[pp P] w fun e w' => e = .returned (.bool (isDecl l)) ∧ Below w.heap.size w w' := by
  have hPlt := h.ps.lt
  have hcs := Lib.run_convert_bytes_const (P := Tryd.prog) w 25 5 #[.int .u8 60, .int .u8 63, .int .u8 120, .int .u8 109, .int .u8 108] 5 5 Tryd.underlying25 Tryd.underlying5
  have hB := cw_below w [60, 63, 120, 109, 108]
  have hW := cw_bts w [60, 63, 120, 109, 108] pre_bd
  change _ = Result.ok _ (cw w [60, 63, 120, 109, 108]) at hcs
  generalize cw w [60, 63, 120, 109, 108] = w1 at *
  have HBB : Hid _ := hB
  rcases h.br.form with ⟨hv, hl⟩ | ⟨g, cap, hv, hc, hm, hbt⟩
  · have c0 : w.cell? ⟨P, 0, none⟩ = some (.slice none 0 0) := by rw [h.ps.rd.1, hv]
    subst hl
    clear hB hW
    go_enter Tryd.func37, Tryd.ntmps37
    go_wp2
    go_ret
    exact ⟨rfl, HBB.out⟩
  · have c0 : w.cell? ⟨P, 0, none⟩ = some (.slice (some ⟨g, 0, none⟩) l.length cap) := by rw [h.ps.rd.1, hv]
    have hll := h.ll
    have hbt1 := hbt.below hB
    unfold maxLen at hm
    by_cases h5 : 5 ≤ l.length
    · have hx1 := conv_sub (cap := cap) hbt1 (Nat.zero_le 5) h5 0
      have hx2 := conv_bts (some ⟨w.heap.size, 0, none⟩) 5 _ w1 hW (fun e => by cases e)
      have e5 : sub l 0 5 = l.take 5 := by unfold sub; simp
      rw [e5] at hx1
      have hE : Hid (Calls Tryd.prog 68 #[.slice (some ⟨g, 0, none⟩) 5 cap, .slice (some ⟨w.heap.size, 0, none⟩) 5 5] w1 fun e w' => e = .returned (.bool (l.take 5 == [60, 63, 120, 109, 108])) ∧ w' = w1) :=
        equal_any (w := w1) hx1 hx2 (by rw [← e5]; exact sub_bd h.br.2) pre_bd
      clear hx1 hx2 hB hW e5
      have hck : ¬ cap < 5 := by omega
      cases hp : (l.take 5 == [60, 63, 120, 109, 108])
      · have hF : isDecl l = false := by
          unfold isDecl
          rw [decide_eq_false_iff_not]
          rintro ⟨e, _⟩
          rw [e] at hp
          simp at hp
        rw [hF]
        rw [hp] at hE
        go_enter Tryd.func37, Tryd.ntmps37
        go_wp2_with (first | (go_at_call 49; refine (cut_f hE.out h5 hc hm).mono ?_; rintro e w2 ⟨rfl, rfl⟩))
        go_ret
        exact ⟨rfl, HBB.out⟩
      · rw [hp] at hE
        by_cases h6 : 5 < l.length
        · have hcell : w1.cell? ⟨g, 5, none⟩ = some (.int .u8 (l.getD 5 0)) := by
            rcases hbt1.2 with rfl | ⟨b, o, he, hc⟩
            · simp at h6
            · simp at he
              obtain ⟨rfl, rfl⟩ := he
              simpa using hc 5 h6
          have hF : isDecl l = isWhite (l.getD 5 0) := by
            unfold isDecl
            rw [Bool.eq_iff_iff, decide_eq_true_iff]
            simp at hp
            simp [hp, h6]
          have hbd := h.br.2 5
          have hb0 := hbd.1
          have hb1 := hbd.2
          rw [hF]
          generalize l.getD 5 0 = c at *
          clear hF hp hbd
          have hck5 : ¬ cap = 5 := by omega
          go_enter Tryd.func37, Tryd.ntmps37
          go_wp2_with (first | (go_at_call 49; refine (cut_t hE.out h5 hc hm).mono ?_; rintro e w2 ⟨rfl, rfl⟩) | (go_at_call 50; refine (white_any _ _).mono ?_; rintro e w2 ⟨rfl, rfl⟩))
          go_ret
          exact ⟨rfl, HBB.out⟩
        · have hF : isDecl l = false := by
            unfold isDecl
            rw [decide_eq_false_iff_not]
            omega
          rw [hF]
          go_enter Tryd.func37, Tryd.ntmps37
          go_wp2_with (first | (go_at_call 49; refine (cut_t hE.out h5 hc hm).mono ?_; rintro e w2 ⟨rfl, rfl⟩))
          all_goals
            go_ret
            exact ⟨rfl, HBB.out⟩
    · have hF : isDecl l = false := by
        unfold isDecl
        rw [decide_eq_false_iff_not]
        omega
      have h5' : ¬ ((5 : Int) ≤ (l.length : Int)) := by omega
      rw [hF]
      clear hB hW
      go_enter Tryd.func37, Tryd.ntmps37
      go_wp2
      go_ret
      exact ⟨rfl, HBB.out⟩
end Go.Proofs.YtjcgnbmpnaapdaaDoor
