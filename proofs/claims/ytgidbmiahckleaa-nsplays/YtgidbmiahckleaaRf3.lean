/- The second telling's binds, bad; Xsi twice. -/
import Derived.Test.YtgidbmiahckleaaRf2
namespace Go.Proofs.Ytgidbmiahckleaa
open Go.RowKit
set_option linter.unusedVariables false
set_option linter.unusedSimpArgs false

/-- The prefix that an attribute binds, by the second telling. -/
def binR (s : ByteArray) : ByteArray × Bool := if s = xnsB then (⟨#[]⟩, true) else if 6 < s.size ∧ s.extract 0 6 = xnB then (s.extract 6 s.size, true) else (⟨#[]⟩, false)
set_option maxRecDepth 100000 in
theorem rbinds_s (s : ByteArray) (w : World) (hs : s.size ≤ maxLen) : Calls Try.prog 29 #[.string s] w fun e w' => e = .returned (.tuple #[.string (binR s).1, .bool (binR s).2]) ∧ w' = w := by
  unfold maxLen at hs
  have hR : binR s = if s = xnsB then (⟨#[]⟩, true) else if 6 < s.size ∧ s.extract 0 6 = xnB then (s.extract 6 s.size, true) else (⟨#[]⟩, false) := rfl
  generalize binR s = R at *
  have HR : Hid _ := hR
  clear hR
  by_cases h1 : s = xnsB
  · have e : R = (⟨#[]⟩, true) := by rw [HR.out, if_pos h1]
    subst e
    subst h1
    clear HR
    unfold xnsB
    go_enter Try.func29, Try.ntmps29
    go_wp2_with fail
    go_ret2
    exact ⟨rfl, rfl⟩
  · have n1 : ¬ s.toList = [120, 109, 108, 110, 115] := fun q => h1 ((tl_eq _ _).1 (by rw [q]; exact (tl_mk _).symm))
    have n2 : (s.toList == [120, 109, 108, 110, 115]) = false := by simpa using n1
    by_cases h2 : 6 < s.size
    · by_cases h3 : s.extract 0 6 = xnB
      · have e : R = (s.extract 6 s.size, true) := by rw [HR.out, if_neg h1, if_pos ⟨h2, h3⟩]
        subst e
        have m1 : (s.extract 0 6).toList = [120, 109, 108, 110, 115, 58] := by rw [h3]; exact tl_mk _
        have m2 : ((s.extract 0 6).toList == [120, 109, 108, 110, 115, 58]) = true := by simp [m1]
        clear HR h1 h3
        go_enter Try.func29, Try.ntmps29
        go_wp2_with fail
        go_ret2
        exact ⟨rfl, rfl⟩
      · have e : R = (⟨#[]⟩, false) := by rw [HR.out, if_neg h1, if_neg (fun q => h3 q.2)]
        subst e
        have m1 : ¬ (s.extract 0 6).toList = [120, 109, 108, 110, 115, 58] := fun q => h3 ((tl_eq _ _).1 (by rw [q]; exact (tl_mk _).symm))
        have m2 : ((s.extract 0 6).toList == [120, 109, 108, 110, 115, 58]) = false := by simpa using m1
        clear HR h1 h3
        go_enter Try.func29, Try.ntmps29
        go_wp2_with fail
        go_ret2
        exact ⟨rfl, rfl⟩
    · have e : R = (⟨#[]⟩, false) := by rw [HR.out, if_neg h1, if_neg (fun q => h2 q.1)]
      subst e
      have h2' : ¬ (6 : Int) < (s.size : Int) := by omega
      clear HR h1
      go_enter Try.func29, Try.ntmps29
      go_wp2_with fail
      go_ret2
      exact ⟨rfl, rfl⟩
/-- May a binding not be, by the second telling? -/
def badR (p full v : ByteArray) : Bool :=
  if (full.toList == xnL) = true then (v.toList == XML_L) || (v.toList == XNS_L)
  else if (!ncB (bl p) || (p.toList == xnL) || ((p.toList == xmL) && !(v.toList == XML_L))) = true then true
  else (!(p.toList == xmL) && (v.toList == XML_L)) || (v.toList == XNS_L) || (v.toList == [])
set_option maxRecDepth 100000 in
set_option maxHeartbeats 3200000 in
theorem rbad_s (p full v : ByteArray) (w : World) (hp : p.size ≤ 100000) : Calls Try.prog 30 #[.string p, .string full, .string v] w fun e w' => e = .returned (.bool (badR p full v)) ∧ Below w.heap.size w w' := by
  have HN : Hid _ := rnc_any p w hp
  by_cases h_f : full.toList = xnL
  · have b_f : (full.toList == xnL) = true := by simp [h_f]
    by_cases h_x : v.toList = XML_L
    · have b_x : (v.toList == XML_L) = true := by simp [h_x]
      go_enter Try.func30, Try.ntmps30
      go_wp2_with (first | (go_at_call 41; refine Calls.mono HN.out ?_; rintro e w' ⟨rfl, hb⟩))
      go_ret
      exact ⟨by simp [badR, b_f, b_x], Below.refl _ _⟩
    · have b_x : (v.toList == XML_L) = false := by simpa using h_x
      by_cases h_n : v.toList = XNS_L
      · have b_n : (v.toList == XNS_L) = true := by simp [h_n]
        go_enter Try.func30, Try.ntmps30
        go_wp2_with (first | (go_at_call 41; refine Calls.mono HN.out ?_; rintro e w' ⟨rfl, hb⟩))
        go_ret
        exact ⟨by simp [badR, b_f, b_x, b_n], Below.refl _ _⟩
      · have b_n : (v.toList == XNS_L) = false := by simpa using h_n
        go_enter Try.func30, Try.ntmps30
        go_wp2_with (first | (go_at_call 41; refine Calls.mono HN.out ?_; rintro e w' ⟨rfl, hb⟩))
        go_ret
        exact ⟨by simp [badR, b_f, b_x, b_n], Below.refl _ _⟩
  · have b_f : (full.toList == xnL) = false := by simpa using h_f
    cases hc : ncB (bl p) with
    | false =>
      rw [hc] at HN
      go_enter Try.func30, Try.ntmps30
      go_wp2_with (first | (go_at_call 41; refine Calls.mono HN.out ?_; rintro e w' ⟨rfl, hb⟩))
      go_ret
      exact ⟨by simp [badR, b_f, hc], hb⟩
    | true =>
      rw [hc] at HN
      by_cases h_a : p.toList = xnL
      · have b_a : (p.toList == xnL) = true := by simp [h_a]
        go_enter Try.func30, Try.ntmps30
        go_wp2_with (first | (go_at_call 41; refine Calls.mono HN.out ?_; rintro e w' ⟨rfl, hb⟩))
        go_ret
        exact ⟨by simp [badR, b_f, b_a, hc], hb⟩
      · have b_a : (p.toList == xnL) = false := by simpa using h_a
        by_cases h_b : p.toList = xmL
        · have b_b : (p.toList == xmL) = true := by simp [h_b]
          by_cases h_x : v.toList = XML_L
          · have b_x : (v.toList == XML_L) = true := by simp [h_x]
            by_cases h_n : v.toList = XNS_L
            · have b_n : (v.toList == XNS_L) = true := by simp [h_n]
              exact absurd (h_x.symm.trans h_n) (by decide)
            · have b_n : (v.toList == XNS_L) = false := by simpa using h_n
              by_cases h_e : v.toList = []
              · have b_e : (v.toList == []) = true := by simp [h_e]
                exact absurd (h_x.symm.trans h_e) (by decide)
              · have b_e : (v.toList == []) = false := by simpa using h_e
                go_enter Try.func30, Try.ntmps30
                go_wp2_with (first | (go_at_call 41; refine Calls.mono HN.out ?_; rintro e w' ⟨rfl, hb⟩))
                go_ret
                exact ⟨by simp [badR, b_f, b_a, b_b, b_x, b_n, b_e, hc], hb⟩
          · have b_x : (v.toList == XML_L) = false := by simpa using h_x
            go_enter Try.func30, Try.ntmps30
            go_wp2_with (first | (go_at_call 41; refine Calls.mono HN.out ?_; rintro e w' ⟨rfl, hb⟩))
            go_ret
            exact ⟨by simp [badR, b_f, b_a, b_b, b_x, hc], hb⟩
        · have b_b : (p.toList == xmL) = false := by simpa using h_b
          by_cases h_x : v.toList = XML_L
          · have b_x : (v.toList == XML_L) = true := by simp [h_x]
            go_enter Try.func30, Try.ntmps30
            go_wp2_with (first | (go_at_call 41; refine Calls.mono HN.out ?_; rintro e w' ⟨rfl, hb⟩))
            go_ret
            exact ⟨by simp [badR, b_f, b_a, b_b, b_x, hc], hb⟩
          · have b_x : (v.toList == XML_L) = false := by simpa using h_x
            by_cases h_n : v.toList = XNS_L
            · have b_n : (v.toList == XNS_L) = true := by simp [h_n]
              go_enter Try.func30, Try.ntmps30
              go_wp2_with (first | (go_at_call 41; refine Calls.mono HN.out ?_; rintro e w' ⟨rfl, hb⟩))
              go_ret
              exact ⟨by simp [badR, b_f, b_a, b_b, b_x, b_n, hc], hb⟩
            · have b_n : (v.toList == XNS_L) = false := by simpa using h_n
              by_cases h_e : v.toList = []
              · have b_e : (v.toList == []) = true := by simp [h_e]
                go_enter Try.func30, Try.ntmps30
                go_wp2_with (first | (go_at_call 41; refine Calls.mono HN.out ?_; rintro e w' ⟨rfl, hb⟩))
                go_ret
                exact ⟨by simp [badR, b_f, b_a, b_b, b_x, b_n, b_e, hc], hb⟩
              · have b_e : (v.toList == []) = false := by simpa using h_e
                go_enter Try.func30, Try.ntmps30
                go_wp2_with (first | (go_at_call 41; refine Calls.mono HN.out ?_; rintro e w' ⟨rfl, hb⟩))
                go_ret
                exact ⟨by simp [badR, b_f, b_a, b_b, b_x, b_n, b_e, hc], hb⟩

abbrev XSI_L : List UInt8 := [104, 116, 116, 112, 58, 47, 47, 119, 119, 119, 46, 119, 51, 46, 111, 114, 103, 47, 50, 48, 48, 49, 47, 88, 77, 76, 83, 99, 104, 101, 109, 97, 45, 105, 110, 115, 116, 97, 110, 99, 101]
def xsiS (s l : ByteArray) : Bool := (s.toList == XSI_L) && ((l.toList == [116, 121, 112, 101]) || (l.toList == [110, 105, 108]) || (l.toList == [115, 99, 104, 101, 109, 97, 76, 111, 99, 97, 116, 105, 111, 110]) || (l.toList == [110, 111, 78, 97, 109, 101, 115, 112, 97, 99, 101, 83, 99, 104, 101, 109, 97, 76, 111, 99, 97, 116, 105, 111, 110]))
set_option maxRecDepth 100000 in
theorem xsi_p (s l : ByteArray) (w : World) : Calls Try.prog 24 #[.agg #[.string s, .string l]] w fun e w' => e = .returned (.bool (xsiS s l)) ∧ Below w.heap.size w w' := by
  by_cases h_s : s.toList = XSI_L
  · have b_s : (s.toList == XSI_L) = true := by simp [h_s]
    by_cases h_t : l.toList = [116, 121, 112, 101]
    · have b_t : (l.toList == [116, 121, 112, 101]) = true := by simp [h_t]
      go_enter Try.func24, Try.ntmps24
      go_wp2_with fail
      go_ret
      exact ⟨by simp [xsiS, b_s, b_t], (Below.refl _ _).alloc (Nat.le_refl _) _⟩
    · have b_t : (l.toList == [116, 121, 112, 101]) = false := by simpa using h_t
      by_cases h_i : l.toList = [110, 105, 108]
      · have b_i : (l.toList == [110, 105, 108]) = true := by simp [h_i]
        go_enter Try.func24, Try.ntmps24
        go_wp2_with fail
        go_ret
        exact ⟨by simp [xsiS, b_s, b_t, b_i], (Below.refl _ _).alloc (Nat.le_refl _) _⟩
      · have b_i : (l.toList == [110, 105, 108]) = false := by simpa using h_i
        by_cases h_c : l.toList = [115, 99, 104, 101, 109, 97, 76, 111, 99, 97, 116, 105, 111, 110]
        · have b_c : (l.toList == [115, 99, 104, 101, 109, 97, 76, 111, 99, 97, 116, 105, 111, 110]) = true := by simp [h_c]
          go_enter Try.func24, Try.ntmps24
          go_wp2_with fail
          go_ret
          exact ⟨by simp [xsiS, b_s, b_t, b_i, b_c], (Below.refl _ _).alloc (Nat.le_refl _) _⟩
        · have b_c : (l.toList == [115, 99, 104, 101, 109, 97, 76, 111, 99, 97, 116, 105, 111, 110]) = false := by simpa using h_c
          by_cases h_o : l.toList = [110, 111, 78, 97, 109, 101, 115, 112, 97, 99, 101, 83, 99, 104, 101, 109, 97, 76, 111, 99, 97, 116, 105, 111, 110]
          · have b_o : (l.toList == [110, 111, 78, 97, 109, 101, 115, 112, 97, 99, 101, 83, 99, 104, 101, 109, 97, 76, 111, 99, 97, 116, 105, 111, 110]) = true := by simp [h_o]
            go_enter Try.func24, Try.ntmps24
            go_wp2_with fail
            go_ret
            exact ⟨by simp [xsiS, b_s, b_t, b_i, b_c, b_o], (Below.refl _ _).alloc (Nat.le_refl _) _⟩
          · have b_o : (l.toList == [110, 111, 78, 97, 109, 101, 115, 112, 97, 99, 101, 83, 99, 104, 101, 109, 97, 76, 111, 99, 97, 116, 105, 111, 110]) = false := by simpa using h_o
            go_enter Try.func24, Try.ntmps24
            go_wp2_with fail
            go_ret
            exact ⟨by simp [xsiS, b_s, b_t, b_i, b_c, b_o], (Below.refl _ _).alloc (Nat.le_refl _) _⟩
  · have b_s : (s.toList == XSI_L) = false := by simpa using h_s
    go_enter Try.func24, Try.ntmps24
    go_wp2_with fail
    go_ret
    exact ⟨by simp [xsiS, b_s], (Below.refl _ _).alloc (Nat.le_refl _) _⟩
set_option maxRecDepth 100000 in
theorem xsi_r (s l : ByteArray) (w : World) : Calls Try.prog 25 #[.agg #[.string s, .string l]] w fun e w' => e = .returned (.bool (xsiS s l)) ∧ Below w.heap.size w w' := by
  by_cases h_s : s.toList = XSI_L
  · have b_s : (s.toList == XSI_L) = true := by simp [h_s]
    by_cases h_t : l.toList = [116, 121, 112, 101]
    · have b_t : (l.toList == [116, 121, 112, 101]) = true := by simp [h_t]
      go_enter Try.func25, Try.ntmps25
      go_wp2_with fail
      go_ret
      exact ⟨by simp [xsiS, b_s, b_t], (Below.refl _ _).alloc (Nat.le_refl _) _⟩
    · have b_t : (l.toList == [116, 121, 112, 101]) = false := by simpa using h_t
      by_cases h_i : l.toList = [110, 105, 108]
      · have b_i : (l.toList == [110, 105, 108]) = true := by simp [h_i]
        go_enter Try.func25, Try.ntmps25
        go_wp2_with fail
        go_ret
        exact ⟨by simp [xsiS, b_s, b_t, b_i], (Below.refl _ _).alloc (Nat.le_refl _) _⟩
      · have b_i : (l.toList == [110, 105, 108]) = false := by simpa using h_i
        by_cases h_c : l.toList = [115, 99, 104, 101, 109, 97, 76, 111, 99, 97, 116, 105, 111, 110]
        · have b_c : (l.toList == [115, 99, 104, 101, 109, 97, 76, 111, 99, 97, 116, 105, 111, 110]) = true := by simp [h_c]
          go_enter Try.func25, Try.ntmps25
          go_wp2_with fail
          go_ret
          exact ⟨by simp [xsiS, b_s, b_t, b_i, b_c], (Below.refl _ _).alloc (Nat.le_refl _) _⟩
        · have b_c : (l.toList == [115, 99, 104, 101, 109, 97, 76, 111, 99, 97, 116, 105, 111, 110]) = false := by simpa using h_c
          by_cases h_o : l.toList = [110, 111, 78, 97, 109, 101, 115, 112, 97, 99, 101, 83, 99, 104, 101, 109, 97, 76, 111, 99, 97, 116, 105, 111, 110]
          · have b_o : (l.toList == [110, 111, 78, 97, 109, 101, 115, 112, 97, 99, 101, 83, 99, 104, 101, 109, 97, 76, 111, 99, 97, 116, 105, 111, 110]) = true := by simp [h_o]
            go_enter Try.func25, Try.ntmps25
            go_wp2_with fail
            go_ret
            exact ⟨by simp [xsiS, b_s, b_t, b_i, b_c, b_o], (Below.refl _ _).alloc (Nat.le_refl _) _⟩
          · have b_o : (l.toList == [110, 111, 78, 97, 109, 101, 115, 112, 97, 99, 101, 83, 99, 104, 101, 109, 97, 76, 111, 99, 97, 116, 105, 111, 110]) = false := by simpa using h_o
            go_enter Try.func25, Try.ntmps25
            go_wp2_with fail
            go_ret
            exact ⟨by simp [xsiS, b_s, b_t, b_i, b_c, b_o], (Below.refl _ _).alloc (Nat.le_refl _) _⟩
  · have b_s : (s.toList == XSI_L) = false := by simpa using h_s
    go_enter Try.func25, Try.ntmps25
    go_wp2_with fail
    go_ret
    exact ⟨by simp [xsiS, b_s], (Below.refl _ _).alloc (Nat.le_refl _) _⟩
end Go.Proofs.Ytgidbmiahckleaa
