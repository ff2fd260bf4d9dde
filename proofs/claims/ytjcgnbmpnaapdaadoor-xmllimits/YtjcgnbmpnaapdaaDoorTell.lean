/- The contract of tell: the text that came, and a tag's events, are ready. -/
import Derived.Test.YtjcgnbmpnaapdaaDoorUpd
namespace Go.Proofs.YtjcgnbmpnaapdaaDoor
open Go.RowKit
set_option linter.unusedVariables false

set_option maxRecDepth 20000 in
set_option maxHeartbeats 3200000 in
/-- Without a text. -/
theorem tell_bare {B P tg m : Nat} {w : World} {v : PV} {l : Bs} {L : Lm} {s : S} {tag : List Ev} {news : List Value} (h : Full B P w v l L s) (ht : s.tout = []) (hnew : ∀ j u, news[j]? = some u → w.cell? ((⟨tg, 0, none⟩ : Addr).add j) = some u)
    (hev : EvC B w tag news) (hm : tag.length = m) (hm0 : 0 < m) (hrl : s.ready.length + m ≤ 3) (hP : tg ≠ P) :
    Calls Tryd.prog 76 #[pp P, .slice (some ⟨tg, 0, none⟩) m m] w fun e w' => e = .returned (.tuple #[]) ∧ ∃ v', Full B P w' v' l L (tellS s tag) ∧ Fr P w w' v v' := by
  have c13 : w.cell? ⟨P, 13, none⟩ = some v.tout := h.inn.ps.cell 13
  have f11 := h.inn.ps.froz 11
  have f12 := h.inn.ps.froz 12
  have f13 := h.inn.ps.froz 13
  have c11 : w.cell? ⟨P, 11, none⟩ = some (.bool v.begun) := h.inn.ps.cell 11
  have c12 : w.cell? ⟨P, 12, none⟩ = some (.int .i64 v.tat) := h.inn.ps.cell 12
  obtain ⟨tcap, htv⟩ : ∃ a cap, v.tout = .slice a 0 cap := by
    have := h.to
    rw [ht] at this
    rcases this.2 with ⟨e, _⟩ | ⟨g, cap, cur, e, _⟩
    · exact ⟨none, 0, e⟩
    · exact ⟨_, cap, e⟩
  obtain ⟨tcap2, htv⟩ := htv
  rw [htv] at c13
  have c14 : w.cell? ⟨P, 14, none⟩ = some v.ready := h.inn.ps.cell 14
  have f14 := h.inn.ps.froz 14
  obtain ⟨h3, fr3⟩ := h.text3 false 0
  obtain ⟨xs, hr3', he3⟩ := h3.rd
  have hr3 : RR B (((w.setCell ⟨P, 11, none⟩ (.bool false)).setCell ⟨P, 12, none⟩ (.int .i64 0)).setCell ⟨P, 13, none⟩ (.slice none 0 0)) v.ready s.ready.length xs := hr3'
  have hsz3 : B ≤ (((w.setCell ⟨P, 11, none⟩ (.bool false)).setCell ⟨P, 12, none⟩ (.int .i64 0)).setCell ⟨P, 13, none⟩ (.slice none 0 0)).heap.size := h3.sz
  have hbn : s.ready.length + m ≤ 1000000 := by omega
  clear hr3'
  have hg3 : w.grownBy (((w.setCell ⟨P, 11, none⟩ (.bool false)).setCell ⟨P, 12, none⟩ (.int .i64 0)).setCell ⟨P, 13, none⟩ (.slice none 0 0)) (some P) := grownBy_trans (grownBy_trans (grownBy_set _ _ _ _) (grownBy_set _ _ _ _)) (grownBy_set _ _ _ _)
  have hnew3 : ∀ j u, news[j]? = some u → (((w.setCell ⟨P, 11, none⟩ (.bool false)).setCell ⟨P, 12, none⟩ (.int .i64 0)).setCell ⟨P, 13, none⟩ (.slice none 0 0)).cell? ((⟨tg, 0, none⟩ : Addr).add j) = some u := by
    intro j u hu
    have := hnew j u hu
    rw [addr_add] at this ⊢
    exact far_cell hg3 this (by simpa using Ne.symm hP)
  have hev3 : EvC B (((w.setCell ⟨P, 11, none⟩ (.bool false)).setCell ⟨P, 12, none⟩ (.int .i64 0)).setCell ⟨P, 13, none⟩ (.slice none 0 0)) tag news := EvC.ky (ky_ps h.inn.ps hg3 (by decide)) hev
  have hln : news.length = m * 5 := by rw [hev.len, hm]
  have hone := hev.one
  have hneR : v.ready.ownBlock ≠ some P := by
    intro e
    exact rr_ty hr3 (t := 81) (by decide) P e _ _ h3.inn.ps
  have HH : Hid _ := And.intro h (And.intro h3 (And.intro fr3 (And.intro hr3 (And.intro he3 (And.intro hnew3 hev3)))))
  have HN : Hid _ := hnew
  have HE : Hid _ := hev
  have HM : Hid _ := hm
  have HT : Hid (s.tout = []) := ht
  clear h h3 fr3 hr3 he3 hnew3 hev3 hnew hev hm hg3 ht
  go_enter Tryd.func76, Tryd.ntmps76
  go_wp2_with (first | (at_builtin; refine wpList_app (B := B) (n := s.ready.length) (v := v.ready) (xs := xs) rfl (.tmp 40) (.tmp 41) rfl HH.out.2.2.2.1 rfl ⟨tg, 0, none⟩ m m news rfl hln HH.out.2.2.2.2.2.1 hone hm0 hbn hsz3 ?_; intro a' cap w4 hrr4 hg4 hn4; have c14' : w4.cell? ⟨P, 14, none⟩ = some v.ready := far_cell hg4 (HH.out.2.1.inn.ps.cell 14) hneR; have f14' : w4.frozen? ⟨P, 14, none⟩ = false := far_froz hg4 (HH.out.2.1.inn.ps.cell 14) (HH.out.2.1.inn.ps.froz 14) hneR; have HQ : Hid _ := And.intro hrr4 (And.intro hg4 hn4); clear hrr4 hg4 hn4))
  go_end0
  obtain ⟨hrr4, hg4, hn4⟩ := HQ.out
  obtain ⟨h0, h3, fr3, hr3, he3, hnew3, hev3⟩ := HH.out
  have hk37 : Ky 37 _ w4 := Ky.of hg4 (rr_ty hr3 (by decide))
  have hlen : (s.ready ++ tag).length = s.ready.length + m := by rw [List.length_append, HM.out]
  have := Full.ready (es := s.ready ++ tag) (xs := xs ++ news) h3 hg4 (by rw [hlen]; exact hrr4) (EvC.app (EvC.ky hk37 he3) (EvC.ky hk37 hev3)) (by rw [hlen]; omega) hn4
  have e : tellS s tag = { { s with begun := false, tat := 0, tout := [] } with ready := s.ready ++ tag } := by
    unfold tellS
    rw [HT.out]
    simp
  rw [e]
  exact ⟨rfl, _, this.1, fr3.trans this.2⟩
end Go.Proofs.YtjcgnbmpnaapdaaDoor
