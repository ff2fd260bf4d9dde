/- The contract of tell where a text came. -/
import Derived.Test.YtjcgnbmpnaapdaaDoorTell
import Derived.Deep.DeepCutAuto
namespace Go.Proofs.YtjcgnbmpnaapdaaDoor
open Go.RowKit
set_option linter.unusedVariables false

theorem new_cells (w : World) (C : Array Value) (t : TypeId) : ∀ j u, C.toList[j]? = some u → (w.alloc (.cells C t)).cell? ((⟨w.heap.size, 0, none⟩ : Addr).add j) = some u := by
  intro j u h
  rw [addr_add, Nat.zero_add]
  have := heap_alloc_new w (.cells C t)
  simp only [World.cell?, this]
  simpa using h
def txE (s : S) : Ev := ⟨3, s.tat, [], s.tout, []⟩
set_option maxRecDepth 20000 in
set_option maxHeartbeats 3200000 in
theorem tell_text {B P tg m : Nat} {w : World} {v : PV} {l : Bs} {L : Lm} {s : S} {tag : List Ev} {news : List Value} (h : Full B P w v l L s) (ht : 0 < s.tout.length) (hnew : ∀ j u, news[j]? = some u → w.cell? ((⟨tg, 0, none⟩ : Addr).add j) = some u)
    (hev : EvC B w tag news) (hm : tag.length = m) (hm0 : 0 < m) (hrl : s.ready.length + 1 + m ≤ 3) (hP : tg ≠ P) (hR : v.ready.ownBlock ≠ some tg) (htg : tg < w.heap.size) :
    Calls Tryd.prog 76 #[pp P, .slice (some ⟨tg, 0, none⟩) m m] w fun e w' => e = .returned (.tuple #[]) ∧ ∃ v', Full B P w' v' l L (tellS s tag) ∧ Fr P w w' v v' := by
  have c12 : w.cell? ⟨P, 12, none⟩ = some (.int .i64 v.tat) := h.inn.ps.cell 12
  have c13 : w.cell? ⟨P, 13, none⟩ = some v.tout := h.inn.ps.cell 13
  have c14 : w.cell? ⟨P, 14, none⟩ = some v.ready := h.inn.ps.cell 14
  have f14 := h.inn.ps.froz 14
  have hcv0 := conv_row (w := w.drew) (ov := v.tout) (out := s.tout) ⟨own_base (w := w.drew) h.to (Nat.zero_le _), h.tb⟩
  obtain ⟨tg0, tcap, htv⟩ : ∃ g cap, v.tout = .slice (some ⟨g, 0, none⟩) s.tout.length cap := by
    rcases h.to.2 with ⟨_, e⟩ | ⟨g, cap, cur, e, _⟩
    · omega
    · exact ⟨g, cap, e⟩
  rw [htv] at c13 hcv0
  obtain ⟨xs, hr, he⟩ := h.rd
  have hPlt := h.inn.ps.lt
  have hta := h.ta
  rw [hta] at c12
  have hb0 : Below w.heap.size w (w.drew.alloc (.cells #[.int .i64 3, .int .i64 s.tat, .string ⟨#[]⟩, .string (sb s.tout), .slice none 0 0] 35)) := (Below.refl _ _).drew.alloc (Nat.le_refl _) _
  obtain ⟨h0, fr0⟩ := h.below hb0
  have hx0 := new_cells w.drew #[.int .i64 3, .int .i64 s.tat, .string ⟨#[]⟩, .string (sb s.tout), .slice none 0 0] 35
  have hr0 : RR B (w.drew.alloc (.cells #[.int .i64 3, .int .i64 s.tat, .string ⟨#[]⟩, .string (sb s.tout), .slice none 0 0] 35)) v.ready s.ready.length xs := (Ky.of (grownBy_of_below hb0 none) (fun g e => by cases e)).rr hr
  have he0 : EvC B (w.drew.alloc (.cells #[.int .i64 3, .int .i64 s.tat, .string ⟨#[]⟩, .string (sb s.tout), .slice none 0 0] 35)) s.ready xs := EvC.ky (Ky.of (grownBy_of_below hb0 none) (fun g e => by cases e)) he
  have htx : EvC B (w.drew.alloc (.cells #[.int .i64 3, .int .i64 s.tat, .string ⟨#[]⟩, .string (sb s.tout), .slice none 0 0] 35)) [txE s] [.int .i64 3, .int .i64 s.tat, .string ⟨#[]⟩, .string (sb s.tout), .slice none 0 0] := ⟨.slice none 0 0, [], rfl, ⟨World.ownsRow_nil _ _ _ _, bd_nil, h.tb, fun a ha => by cases ha⟩, rfl⟩
  have hone0 := htx.one
  have hsz0 : B ≤ (w.drew.alloc (.cells #[.int .i64 3, .int .i64 s.tat, .string ⟨#[]⟩, .string (sb s.tout), .slice none 0 0] 35)).heap.size := h0.sz
  have hneR : v.ready.ownBlock ≠ some P := by
    intro e
    exact rr_ty hr (t := 81) (by decide) P e _ _ h.inn.ps
  have hnew0 : ∀ j u, news[j]? = some u → (w.drew.alloc (.cells #[.int .i64 3, .int .i64 s.tat, .string ⟨#[]⟩, .string (sb s.tout), .slice none 0 0] 35)).cell? ((⟨tg, 0, none⟩ : Addr).add j) = some u := by
    intro j u hu
    have := hnew j u hu
    rw [addr_add] at this ⊢
    exact blk_cell hb0 this
  have hev0 : EvC B _ tag news := EvC.ky (Ky.of (grownBy_of_below hb0 none) (fun g e => by cases e)) hev
  have HH : Hid _ := And.intro h0 (And.intro fr0 (And.intro hr0 (And.intro he0 htx)))
  have HX : Hid _ := hx0
  have HN : Hid _ := And.intro hnew0 (And.intro hev0 (And.intro hm hR))
  have HT : Hid (0 < s.tout.length) := ht
  clear h hr he hnew hev hm hR h0 fr0 hr0 he0 htx hx0 hnew0 hev0 hta
  go_enter Tryd.func76, Tryd.ntmps76
  go_upto_region 1 with fail
  go_cut [] (fun w5 => ∃ v5, Full B P w5 v5 l L { s with ready := s.ready ++ [txE s] } ∧ Fr P w w5 v v5 ∧ (∀ j u, news[j]? = some u → w5.cell? ((⟨tg, 0, none⟩ : Addr).add j) = some u) ∧ EvC B w5 tag news)
  case first =>
    go_region_law (first
    | (refine step_app (B := B) (n := s.ready.length) (v := v.ready) (xs := xs) rfl (.tmp 15) (.tmp 28) rfl HH.out.2.2.1 (by simp [Act.eval]) ⟨w.heap.size, 0, none⟩ 1 1 [.int .i64 3, .int .i64 s.tat, .string ⟨#[]⟩, .string (sb s.tout), .slice none 0 0] (by simp [Act.eval]) rfl HX.out hone0 (by decide) (by omega) hsz0 ?_
       intro a4 cap4 w4 hrr4 hg4 hn4
       have c14' : w4.cell? ⟨P, 14, none⟩ = some v.ready := far_cell hg4 (HH.out.1.inn.ps.cell 14) hneR
       have f14' : w4.frozen? ⟨P, 14, none⟩ = false := far_froz hg4 (HH.out.1.inn.ps.cell 14) (HH.out.1.inn.ps.froz 14) hneR
       have HQ4 : Hid _ := And.intro hrr4 (And.intro hg4 hn4)
       clear hrr4 hg4 hn4))
    all_goals
      go_wp2_with fail
      go_meet
      obtain ⟨hrr4, hg4, hn4⟩ := HQ4.out
      obtain ⟨h0, fr0, hr0, he0, htx⟩ := HH.out
      obtain ⟨hnew0, hev0, hm, hR⟩ := HN.out
      have hk37 : Ky 37 _ w4 := Ky.of hg4 (rr_ty hr0 (by decide))
      have hlen1 : (s.ready ++ [txE s]).length = s.ready.length + 1 := by simp
      have h5 := Full.ready (es := s.ready ++ [txE s]) h0 hg4 (by rw [hlen1]; exact hrr4) (EvC.app (EvC.ky hk37 he0) (EvC.ky hk37 htx)) (by rw [hlen1]; omega) hn4
      refine ⟨_, h5.1, fr0.trans h5.2, ?_, EvC.ky (ky_pset (PS.kept h0.inn.ps hg4 (fun e => hneR e.symm)) (by decide) _) (EvC.ky hk37 hev0)⟩
      intro j u hu
      have := hnew0 j u hu
      rw [addr_add] at this ⊢
      exact far_cell (grownBy_set _ _ _ _) (far_cell hg4 this hR) (by simpa using Ne.symm hP)
  case rest =>
    obtain ⟨v5, h, fr5, hnew, hev⟩ := hcut
    have hm := HN.out.2.2.1
    have hlen5 : s.ready.length + 1 + m ≤ 3 := hrl
    have HE5 : Hid (tellS s tag = { ({ s with ready := s.ready ++ [txE s] } : S) with begun := false, tat := 0, tout := [], ready := ({ s with ready := s.ready ++ [txE s] } : S).ready ++ tag }) := by
      unfold tellS
      rw [if_pos HT.out]
      rfl
    have hl5 : ({ s with ready := s.ready ++ [txE s] } : S).ready.length = s.ready.length + 1 := by simp
    generalize ({ s with ready := s.ready ++ [txE s] } : S) = s5 at *
    clear c12 c13 c14 f14 hcv0 htv hb0 hone0 hsz0 hneR HH HX
    have hrl5 : s5.ready.length + m ≤ 3 := by omega
    have c11 : wc.cell? ⟨P, 11, none⟩ = some (.bool v5.begun) := h.inn.ps.cell 11
    have c12 : wc.cell? ⟨P, 12, none⟩ = some (.int .i64 v5.tat) := h.inn.ps.cell 12
    have c13 : wc.cell? ⟨P, 13, none⟩ = some v5.tout := h.inn.ps.cell 13
    have c14 : wc.cell? ⟨P, 14, none⟩ = some v5.ready := h.inn.ps.cell 14
    have f11 := h.inn.ps.froz 11
    have f12 := h.inn.ps.froz 12
    have f13 := h.inn.ps.froz 13
    have f14 := h.inn.ps.froz 14
    obtain ⟨h3, fr3⟩ := h.text3 false 0
    obtain ⟨xs3, hr3', he3⟩ := h3.rd
    have hr3 : RR B (((wc.setCell ⟨P, 11, none⟩ (.bool false)).setCell ⟨P, 12, none⟩ (.int .i64 0)).setCell ⟨P, 13, none⟩ (.slice none 0 0)) v5.ready s5.ready.length xs3 := hr3'
    have hsz3 : B ≤ (((wc.setCell ⟨P, 11, none⟩ (.bool false)).setCell ⟨P, 12, none⟩ (.int .i64 0)).setCell ⟨P, 13, none⟩ (.slice none 0 0)).heap.size := h3.sz
    have hbn : s5.ready.length + m ≤ 1000000 := by omega
    clear hr3'
    have hg3 : wc.grownBy (((wc.setCell ⟨P, 11, none⟩ (.bool false)).setCell ⟨P, 12, none⟩ (.int .i64 0)).setCell ⟨P, 13, none⟩ (.slice none 0 0)) (some P) := grownBy_trans (grownBy_trans (grownBy_set _ _ _ _) (grownBy_set _ _ _ _)) (grownBy_set _ _ _ _)
    have hnew3 : ∀ j u, news[j]? = some u → (((wc.setCell ⟨P, 11, none⟩ (.bool false)).setCell ⟨P, 12, none⟩ (.int .i64 0)).setCell ⟨P, 13, none⟩ (.slice none 0 0)).cell? ((⟨tg, 0, none⟩ : Addr).add j) = some u := by
      intro j u hu
      have := hnew j u hu
      rw [addr_add] at this ⊢
      exact far_cell hg3 this (by simpa using Ne.symm hP)
    have hev3 : EvC B (((wc.setCell ⟨P, 11, none⟩ (.bool false)).setCell ⟨P, 12, none⟩ (.int .i64 0)).setCell ⟨P, 13, none⟩ (.slice none 0 0)) tag news := EvC.ky (ky_ps h.inn.ps hg3 (by decide)) hev
    have hln : news.length = m * 5 := by rw [hev.len, hm]
    have hone := hev.one
    have hneR : v5.ready.ownBlock ≠ some P := by
      intro e
      exact rr_ty hr3 (t := 81) (by decide) P e _ _ h3.inn.ps
    have HH : Hid _ := And.intro h (And.intro h3 (And.intro fr3 (And.intro hr3 (And.intro he3 (And.intro hnew3 hev3)))))
    have HM : Hid _ := hm
    have HF5 : Hid _ := fr5
    clear h h3 fr3 hr3 he3 hnew3 hev3 hnew hev hm hg3 fr5 hl5
    go_wp2_with (first | (at_builtin; refine wpList_app (B := B) (n := s5.ready.length) (v := v5.ready) (xs := xs3) rfl (.tmp 40) (.tmp 41) rfl HH.out.2.2.2.1 rfl ⟨tg, 0, none⟩ m m news rfl hln HH.out.2.2.2.2.2.1 hone hm0 hbn hsz3 ?_; intro a' cap w4 hrr4 hg4 hn4; have c14' : w4.cell? ⟨P, 14, none⟩ = some v5.ready := far_cell hg4 (HH.out.2.1.inn.ps.cell 14) hneR; have f14' : w4.frozen? ⟨P, 14, none⟩ = false := far_froz hg4 (HH.out.2.1.inn.ps.cell 14) (HH.out.2.1.inn.ps.froz 14) hneR; have HQ : Hid _ := And.intro hrr4 (And.intro hg4 hn4); clear hrr4 hg4 hn4))
    go_end0
    obtain ⟨hrr4, hg4, hn4⟩ := HQ.out
    obtain ⟨h0, h3, fr3, hr3, he3, hnew3, hev3⟩ := HH.out
    have hk37 : Ky 37 _ w4 := Ky.of hg4 (rr_ty hr3 (by decide))
    have hlen : (s5.ready ++ tag).length = s5.ready.length + m := by rw [List.length_append, HM.out]
    have := Full.ready (es := s5.ready ++ tag) (xs := xs3 ++ news) h3 hg4 (by rw [hlen]; exact hrr4) (EvC.app (EvC.ky hk37 he3) (EvC.ky hk37 hev3)) (by rw [hlen]; omega) hn4
    rw [HE5.out]
    exact ⟨rfl, _, this.1, HF5.out.trans (fr3.trans this.2)⟩
/-- tell, whether a text came or not. -/
theorem tell_any {B P tg m : Nat} {w : World} {v : PV} {l : Bs} {L : Lm} {s : S} {tag : List Ev} {news : List Value} (h : Full B P w v l L s) (hnew : ∀ j u, news[j]? = some u → w.cell? ((⟨tg, 0, none⟩ : Addr).add j) = some u)
    (hev : EvC B w tag news) (hm : tag.length = m) (hm0 : 0 < m) (hm2 : m ≤ 2) (hrd : s.ready = []) (hP : tg ≠ P) (hR : v.ready.ownBlock ≠ some tg) (htg : tg < w.heap.size) :
    Calls Tryd.prog 76 #[pp P, .slice (some ⟨tg, 0, none⟩) m m] w fun e w' => e = .returned (.tuple #[]) ∧ ∃ v', Full B P w' v' l L (tellS s tag) ∧ Fr P w w' v v' := by
  have h0 : s.ready.length = 0 := by rw [hrd]; rfl
  by_cases ht : 0 < s.tout.length
  · exact tell_text h ht hnew hev hm hm0 (by omega) hP hR htg
  · exact tell_bare h (List.eq_nil_of_length_eq_zero (by omega)) hnew hev hm hm0 (by omega) hP
end Go.Proofs.YtjcgnbmpnaapdaaDoor
