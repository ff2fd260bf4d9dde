/- The walk of XmlEscapes. -/
import Derived.Test.YtjcgnbmpnaapdaaDoorNst
import Derived.Test.YtjcgnbmpnaapdaaDoorBuilt
import Derived.Test.YtjcgnbmpnaapdaaDoorResc
import Derived.Test.YtjcgnbmpnaapdaaDoorRight
namespace Go.Proofs.YtjcgnbmpnaapdaaDoor
open Go.RowKit
set_option linter.unusedVariables false

theorem bl_mem (s : ByteArray) : ∀ c ∈ bl s, 0 ≤ c ∧ c < 256 := mem_bd (bl_bd s)
/-- Right letters, as the reference has them. -/
theorem rgt_rt : ∀ (n : Nat) (l : Bs), l.length ≤ n → (∀ c ∈ l, 0 ≤ c ∧ c < 256) → (rgt n l).2 = true → M.Rt l
  | 0, l, hn, hb, h => by
    have : l = [] := List.eq_nil_of_length_eq_zero (by omega)
    subst this
    exact .nil
  | n + 1, l, hn, hb, h => by
    by_cases h0 : l.length = 0
    · have : l = [] := List.eq_nil_of_length_eq_zero h0
      subst this
      exact .nil
    by_cases hq : (dec l).2 = 0 ∨ isChar (dec l).1 = false
    · rw [rgt_bad n l h0 hq] at h; cases h
    rw [rgt_step n l h0 hq] at h
    have hc : isChar (dec l).1 = true := by
      cases hx : isChar (dec l).1 with
      | true => rfl
      | false => exact absurd (.inr hx) hq
    obtain ⟨r, v, hr, rfl⟩ := M.enc_dec hb hc
    have hd := M.dec_enc r v (M.char_w hr)
    have hw := M.enc_lenw (M.char_w hr)
    have hp := M.enc_pos hr
    rw [hd] at h
    have e : (enc r ++ v).drop (wid r).toNat = v := by
      have e1 : (wid r).toNat = (enc r).length := by omega
      rw [e1]; simp
    dsimp only at h
    rw [e] at h
    rw [List.length_append] at hn
    exact .cons r v hr (rgt_rt n v (by omega) (fun c hc => hb c (by simp [hc])) h)
theorem u8_iff (c : UInt8) (n : Nat) (hn : n < 256) : c = UInt8.ofNat n ↔ (c.toNat : Int) = (n : Int) := by
  constructor
  · rintro rfl
    simp
    omega
  · intro h
    apply UInt8.toNat_inj.1
    simp
    omega
theorem escU_S (a : Bool) : ∀ l : List UInt8, (escU a l).map (fun c => (c.toNat : Int)) = escS a (l.map fun c => (c.toNat : Int))
  | [] => rfl
  | c :: l => by
    have ih := escU_S a l
    have e : escU a (c :: l) = escP a c ++ escU a l := by simp [escU]
    rw [e, List.map_append, List.map_cons, escS, ih]
    congr 1
    have i1 : ((c.toNat : Int) = 38) ↔ c = 38 := (u8_iff c 38 (by omega)).symm
    have i2 : ((c.toNat : Int) = 60) ↔ c = 60 := (u8_iff c 60 (by omega)).symm
    have i3 : ((c.toNat : Int) = 62) ↔ c = 62 := (u8_iff c 62 (by omega)).symm
    have i4 : ((c.toNat : Int) = 13) ↔ c = 13 := (u8_iff c 13 (by omega)).symm
    have i5 : ((c.toNat : Int) = 34) ↔ c = 34 := (u8_iff c 34 (by omega)).symm
    have i6 : ((c.toNat : Int) = 9) ↔ c = 9 := (u8_iff c 9 (by omega)).symm
    have i7 : ((c.toNat : Int) = 10) ↔ c = 10 := (u8_iff c 10 (by omega)).symm
    simp only [i1, i2, i3, i4, i5, i6, i7]
    unfold escP escO
    by_cases h1 : c = 38
    · subst h1; cases a <;> rfl
    by_cases h2 : c = 60
    · subst h2; cases a <;> rfl
    by_cases h3 : c = 62
    · subst h3; cases a <;> rfl
    by_cases h4 : c = 13
    · subst h4; cases a <;> rfl
    rw [if_neg h1, if_neg h2, if_neg h3, if_neg h4, if_neg h1, if_neg h2, if_neg h3, if_neg h4]
    cases a
    · simp
    by_cases h5 : c = 34
    · subst h5; rfl
    by_cases h6 : c = 9
    · subst h6; rfl
    by_cases h7 : c = 10
    · subst h7; rfl
    simp [h5, h6, h7]
theorem escB (a : Bool) (s : ByteArray) : (⟨(escU a s.data.toList).toArray⟩ : ByteArray) = sb (escS a (bl s)) := by
  have e : escS a (bl s) = bl ⟨(escU a s.data.toList).toArray⟩ := by
    unfold bl
    rw [← escU_S]
  rw [e, sb_bl]
theorem esc_bd (a : Bool) (s : ByteArray) : Bd (escS a (bl s)) := by
  have e : escS a (bl s) = bl ⟨(escU a s.data.toList).toArray⟩ := by
    unfold bl
    rw [← escU_S]
  rw [e]
  exact bl_bd _
theorem esc_len6 (a : Bool) (s : ByteArray) : (escS a (bl s)).length ≤ 6 * s.size := by
  have e : escS a (bl s) = (escU a s.data.toList).map (fun c => (c.toNat : Int)) := by
    unfold bl
    rw [← escU_S]
  rw [e, List.length_map]
  have := escU_len a s.data.toList
  simpa using this
theorem doc_eq (s v : ByteArray) : (⟨#[60, 97, 32, 118, 61, 34]⟩ : ByteArray) ++ sb (escS true (bl v)) ++ ⟨#[34, 62]⟩ ++ sb (escS false (bl s)) ++ ⟨#[60, 47, 97, 62]⟩ = sb (M.escDoc (bl v) (bl s)) := by
  unfold M.escDoc
  rw [← sb_append, ← sb_append, ← sb_append, ← sb_append]
  simp only [ByteArray.append_assoc]
  rfl
theorem doc_bd (s v : ByteArray) : Bd (M.escDoc (bl v) (bl s)) :=
  bd_append (bd_mem (by decide)) (bd_append (esc_bd true v) (bd_append (bd_mem (by decide)) (bd_append (esc_bd false s) (bd_mem (by decide)))))
theorem doc_len (s v : ByteArray) (hs : s.size ≤ 600) (hv : v.size ≤ 600) : (M.escDoc (bl v) (bl s)).length ≤ 8000 := by
  have h1 := esc_len6 true v
  have h2 := esc_len6 false s
  unfold M.escDoc
  simp
  omega
theorem conv_eq (S : ByteArray) (l : Bs) (w : World) (hS : S = sb l) (hbd : Bd l) (hl : l.length ≤ maxLen) : ∃ cap w1, (convert 9 25 (.string S)).run Tryd.prog w = .ok (.slice (some ⟨w.heap.size, 0, none⟩) l.length cap) w1 ∧ Below w.heap.size w w1 ∧ BI w1 (.slice (some ⟨w.heap.size, 0, none⟩) l.length cap) l := by
  subst hS
  obtain ⟨cap, w1, h1, h2, h3⟩ := conv_bi l w hbd hl
  rw [sb_size] at h1 h3
  exact ⟨cap, w1, h1, h2, h3⟩
theorem right_conv (s : ByteArray) (w : World) (hs : s.size ≤ maxLen) : ∃ cap w1, (convert 9 25 (.string s)).run Tryd.prog w = .ok (.slice (some ⟨w.heap.size, 0, none⟩) s.size cap) w1 ∧ Below w.heap.size w w1 ∧
    Calls Tryd.prog 9 #[.slice (some ⟨w.heap.size, 0, none⟩) s.size cap] w1 fun e w' => e = .returned (.tuple #[.int .i64 (rgt s.size (bl s)).1, .bool (rgt s.size (bl s)).2]) ∧ w' = w1 := by
  obtain ⟨cap, w1, h1, h2, h3, h4, h5, h6⟩ := conv_bytes s w hs
  refine ⟨cap, w1, h3, h4, ?_⟩
  have := rright_any (some ⟨w.heap.size, 0, none⟩) (bl s) cap w1 (by rw [bl_len]; exact h1) h2 h6
  rw [bl_len] at this
  exact this
theorem sb_bl_eq (s : ByteArray) : sb (bl s) = s := sb_bl s
/-- What the law reads of the events. -/
structure EsE (w : World) (sv : Value) (n : Nat) (v x : ByteArray) : Prop where
  f : ∃ g off cap ga gc, sv = .slice (some ⟨g, off, none⟩) n cap ∧ n ≤ cap ∧ cap ≤ maxLen ∧ w.cell? ⟨g, off + 4, none⟩ = some (.slice (some ⟨ga, 0, none⟩) 1 gc) ∧ 1 ≤ gc ∧ gc ≤ maxLen ∧ w.cell? ⟨ga, 1, none⟩ = some (.string v) ∧ (n = 3 → w.cell? ⟨g, off + 8, none⟩ = some (.string x))
theorem EsE.of {B : Nat} {w : World} {sv : Value} {xs : List Value} {es : List Ev} {v x : ByteArray} {k k' : Int} (h : RR B w sv es.length xs) (hc : EvC B w es xs)
    (he : es = ⟨1, 0, [97], [], [⟨[118], bl v, 3⟩]⟩ :: ((if bl x = [] then [] else [⟨3, k, [], bl x, []⟩]) ++ [⟨2, k', [97], [], []⟩])) : EsE w sv es.length v x := by
  have h0 : es[0]? = some ⟨1, 0, [97], [], [⟨[118], bl v, 3⟩]⟩ := by rw [he]; rfl
  rcases h with ⟨rfl, hn0, _⟩ | ⟨g, off, cap, rfl, _, _, h1, h2, h3, h4⟩
  · rw [he] at hn0; simp at hn0
  · obtain ⟨av, har, _, _, _, hc4⟩ := EvC.get2 0 _ hc h0
    have hp : 0 < es.length := by rw [he]; simp
    rcases har.form with ⟨_, hh⟩ | ⟨ga, gc, rfl, hg1, hg2, _, _⟩
    · cases hh
    · have hcell := har.cell 0 1 (by simp) (by omega)
      refine ⟨g, off, cap, ga, gc, rfl, h1, h2, (h4 4 (by omega)).trans hc4, hg1, hg2, ?_, fun hn => ?_⟩
      · have e : (atCells (⟨[118], bl v, 3⟩ : At))[1]? = some (.string (sb (bl v))) := rfl
        rw [sb_bl] at e
        exact hcell.trans e
      · have hx : bl x ≠ [] := by
          intro q
          rw [he, if_pos q] at hn
          simp at hn
        have h1' : es[1]? = some ⟨3, k, [], bl x, []⟩ := by rw [he, if_neg hx]; rfl
        obtain ⟨_, _, _, _, hc3, _⟩ := EvC.get2 1 _ hc h1'
        have q := (h4 (1 * 5 + 3) (by omega)).trans hc3
        dsimp only at q
        rw [sb_bl] at q
        exact q
theorem esc_s (a : Bool) (s : ByteArray) (w : World) (h : s.size ≤ 1000) : Calls Tryd.prog 10 #[.string s, .bool a] w fun e w' => e = .returned (.string (sb (escS a (bl s)))) ∧ Below w.heap.size w w' := by
  have q := esc_any a s.data.toList w (by simp; have : s.data.size = s.size := rfl; omega)
  rw [escB] at q
  exact q
theorem resc_s (a : Bool) (s : ByteArray) (w : World) (h : s.size ≤ 1000) : Calls Tryd.prog 11 #[.string s, .bool a] w fun e w' => e = .returned (.string (sb (escS a (bl s)))) ∧ Below w.heap.size w w' := by
  have q := resc_any a s.data.toList w (by simp; have : s.data.size = s.size := rfl; omega)
  rw [escB] at q
  exact q
set_option maxRecDepth 100000 in
set_option maxHeartbeats 6400000 in
theorem escapes_walk {w : World} (s v : ByteArray) (hs : s.size ≤ maxLen) (hv : v.size ≤ maxLen) (hT : Tab w) :
    Calls Tryd.prog 3 #[.string s, .string v] w fun e w' => e = .returned (.bool true) ∧ Below w.heap.size w w' := by
  have h0 : 0 < w.heap.size := World.block_lt_of_cell? w _ hT.a
  have HT : Hid _ := hT
  clear hT
  go_enter Tryd.func3, Tryd.ntmps3
  go_wp2_with fail
  refine (known_s HT.out).mono ?_
  rintro e w2 ⟨rfl, hb2⟩
  obtain ⟨c3, w3, hcv3, hb3, hR3⟩ := right_conv s w2 hs
  have hz2 := hb2.size
  have hz3 := hb3.size
  have HB3 : Hid _ := hb2.trans (hb3.mono hz2)
  have HR3 : Hid _ := hR3
  clear hb2 hb3 hR3
  go_wp2_with fail
  refine Calls.mono HR3.out ?_
  rintro e w3' ⟨rfl, rfl⟩
  obtain ⟨c4, w4, hcv4, hb4, hR4⟩ := right_conv v w3' hv
  have hz4 := hb4.size
  have HB4 : Hid _ := HB3.out.trans (hb4.mono (by omega))
  have HR4 : Hid _ := hR4
  clear hb4 hR4
  go_wp2_with fail
  refine Calls.mono HR4.out ?_
  rintro e w4' ⟨rfl, rfl⟩
  have hrs : (rgt s.size (bl s)).2 = true → M.Rt (bl s) := rgt_rt _ _ (by rw [bl_len]; exact Nat.le_refl _) (bl_mem s)
  have hrv : (rgt v.size (bl v)).2 = true → M.Rt (bl v) := rgt_rt _ _ (by rw [bl_len]; exact Nat.le_refl _) (bl_mem v)
  generalize rgt s.size (bl s) = r1 at *
  generalize rgt v.size (bl v) = r2 at *
  obtain ⟨k1, b1⟩ := r1
  obtain ⟨k2, b2⟩ := r2
  dsimp only at *
  have HRt : Hid _ := And.intro hrs hrv
  clear hrs hrv hcv3 hcv4
  by_cases h6 : s.size ≤ 600 ∧ v.size ≤ 600
  · cases b1
    · go_wp2_with fail
      all_goals
        go_ret
        exact ⟨rfl, HB4.out⟩
    cases b2
    · go_wp2_with fail
      all_goals
        go_ret
        exact ⟨rfl, HB4.out⟩
    · have hxs := HRt.out.1 rfl
      have hxv := HRt.out.2 rfl
      have HX : Hid _ := And.intro hxs hxv
      clear hxs hxv HRt
      obtain ⟨hs6, hv6⟩ := h6
      have hq1 : decide (600 < (s.size : Int)) = false := by simp; omega
      have hq2 : decide (600 < (v.size : Int)) = false := by simp; omega
      go_wp2_with fail
      refine (esc_s false s w4' (by omega)).mono ?_
      rintro e w5 ⟨rfl, hb5⟩
      have hz5 := hb5.size
      have HB5 : Hid _ := HB4.out.trans (hb5.mono (by omega))
      clear hb5
      go_wp2_with fail
      refine (esc_s true v w5 (by omega)).mono ?_
      rintro e w6 ⟨rfl, hb6⟩
      have hz6 := hb6.size
      have HB6 : Hid _ := HB5.out.trans (hb6.mono (by omega))
      clear hb6
      go_wp2_with fail
      refine (resc_s false s w6 (by omega)).mono ?_
      rintro e w7 ⟨rfl, hb7⟩
      have hz7 := hb7.size
      have HB7 : Hid _ := HB6.out.trans (hb7.mono (by omega))
      clear hb7
      have hde := doc_eq s v
      have hdl := doc_len s v hs6 hv6
      have hxl : (sb (escS false (bl s))).size ≤ 3600 := by rw [sb_size]; have := esc_len6 false s; omega
      have hyl : (sb (escS true (bl v))).size ≤ 3600 := by rw [sb_size]; have := esc_len6 true v; omega
      have HRE : Hid _ := resc_s true v w7 (by omega)
      generalize sb (escS false (bl s)) = X at *
      generalize sb (escS true (bl v)) = Y at *
      go_wp2_with fail
      refine Calls.mono HRE.out ?_
      rintro e w8 ⟨rfl, hb8⟩
      have hz8 := hb8.size
      have HB8 : Hid _ := HB7.out.trans (hb8.mono (by omega))
      clear hb8
      obtain ⟨c9, w9, hcv9, hb9, hbi9⟩ := conv_eq _ (M.escDoc (bl v) (bl s)) w8 hde (doc_bd s v) (by unfold maxLen; omega)
      have hz9 := hb9.size
      have HB9 : Hid _ := And.intro (HB8.out.trans (hb9.mono (by omega))) hbi9
      clear hb9 hbi9 hde
      have HT9 : Hid _ := HT.out.lower HB9.out.1 h0
      obtain ⟨p1, p2, hall⟩ := M.esc_doc (L := limS 0 0 0 0) HX.out.2 HX.out.1 (by rw [bl_len]; show (v.size : Int) ≤ 4096; omega) (by rw [bl_len]; show (s.size : Int) ≤ 4096; omega) (by decide) (by decide) (by decide) (by decide) (by omega)
      have HA : Hid _ := hall
      clear hall
      generalize M.escDoc (bl v) (bl s) = D at *
      go_wp2_with fail
      refine (all_b 0 0 0 0 0 0 HB9.out.2 HT9.out).mono ?_
      rw [HA.out]
      rintro e w10 ⟨B4, sv4, xs4, rfl, hB4, hr4, hc4, hb4⟩
      have HF : Hid _ := HB9.out.1.trans (hb4.mono (by omega))
      dsimp only at hr4 hc4
      have hE := EsE.of hr4 hc4 rfl
      clear hr4 hc4 hb4
      obtain ⟨g, off, cap, ga, gc, rfl, hn1, hn2, hcA, hg1, hg2, hcV, hcX⟩ := hE.f
      unfold maxLen at hn2 hg2
      clear hE
      have hss : (bl s = []) ↔ s = ⟨#[]⟩ := by
        constructor
        · intro q
          rw [← sb_bl s, q]
          rfl
        · rintro rfl; rfl
      by_cases hse : s = ⟨#[]⟩
      · rw [if_pos (hss.2 hse)] at *
        dsimp only [List.nil_append, List.length_cons, List.length_nil] at *
        have hsl : s.toList = [] := by rw [hse, Lib.toList_data]
        go_wp2_with fail
        go_ret
        exact ⟨rfl, HF.out⟩
      · rw [if_neg (fun q => hse (hss.1 q))] at *
        dsimp only [List.nil_append, List.length_cons, List.length_nil] at *
        have hsl : ¬ s.toList = [] := by
          intro q
          rw [Lib.toList_data] at q
          apply hse
          apply ByteArray.ext
          apply Array.toList_inj.1
          exact q
        have hsl2 : s.toList.isEmpty = false := by simpa using hsl
        have hcX2 := hcX rfl
        clear hcX
        go_wp2_with fail
        go_ret
        exact ⟨rfl, HF.out⟩
  · by_cases h7 : 600 < s.size
    · go_wp2_with fail
      all_goals
        go_ret
        exact ⟨rfl, HB4.out⟩
    · have h8 : 600 < v.size := by omega
      go_wp2_with fail
      all_goals
        go_ret
        exact ⟨rfl, HB4.out⟩
end Go.Proofs.YtjcgnbmpnaapdaaDoor
