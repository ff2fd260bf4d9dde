/- The program: Category, Escape. -/
import Derived.Test.YthlkbijpphdblaaN2
namespace Go.Proofs.Ythlkbijpphdblaa
open Go.RowKit
set_option linter.unusedVariables false

theorem of_same {l s : List Rg} (h : OfS l s) : ofR l = s := OfS.eq (ofR_ok l) h (fun _ _ _ => rfl)
theorem not_same {l s : List Rg} (hc : Cn l) (h : NotS l s) : notR 0 l = s := NotS.eq (notR_S hc) h
/-- The letters of a category, and whether there is one. -/
def catS (n : List UInt8) : List Rg × Bool :=
  if n = [76, 117] then ([(65, 90)], true) else
  if n = [76, 108] then ([(97, 122)], true) else
  if n = [76] then ([(65, 90), (97, 122)], true) else
  if n = [78, 100] then ([(48, 57)], true) else
  if n = [78] then ([(48, 57)], true) else
  if n = [80] then ([(33, 35), (37, 42), (44, 47), (58, 59), (63, 64), (91, 93), (95, 95), (123, 123), (125, 125)], true) else
  if n = [83] then ([(36, 36), (43, 43), (60, 62), (94, 94), (96, 96), (124, 124), (126, 126)], true) else
  if n = [90] then ([(32, 32), (160, 160)], true) else
  if n = [67] then ([(0, 31), (127, 159)], true) else
  ([], false)
def stL : List Rg := [(58, 58), (65, 90), (95, 95), (97, 122), (192, 214), (216, 246), (248, 55295), (57344, 65533), (65536, 1114111)]
def ptL : List Rg := [(45, 46), (48, 58), (65, 90), (95, 95), (97, 122), (183, 183), (192, 214), (216, 246), (248, 55295), (57344, 65533), (65536, 1114111)]
def whL : List Rg := [(9, 10), (13, 13), (32, 32)]
def wdL : List Rg := [(36, 36), (43, 43), (48, 57), (60, 62), (65, 90), (94, 94), (96, 122), (124, 124), (126, 126), (161, 1114111)]
/-- The letters of an escape, and whether there is one. -/
def escS (c : Int) : List Rg × Bool :=
  if c = 115 then (whL, true) else
  if c = 105 then (stL, true) else
  if c = 99 then (ptL, true) else
  if c = 100 then ([(48, 57)], true) else
  if c = 119 then (wdL, true) else
  if c = 83 then (notR 0 whL, true) else
  if c = 73 then (notR 0 stL, true) else
  if c = 67 then (notR 0 ptL, true) else
  if c = 68 then (notR 0 [(48, 57)], true) else
  if c = 87 then (notR 0 wdL, true) else
  ([], false)
theorem rt0 {l : List Rg} (h : rtB 0 l = true) : Cn l := ((rt_iff l 0 (by omega)).1 h).1
theorem cat_ok (n : List UInt8) : Cn (catS n).1 ∧ (catS n).1.length ≤ 100 := by
  unfold catS
  repeat' split
  all_goals exact ⟨rt0 (by decide +kernel), by decide⟩
theorem esc_ok (c : Int) : Cn (escS c).1 ∧ (escS c).1.length ≤ 100 := by
  unfold escS
  repeat' split
  all_goals exact ⟨rt0 (by decide +kernel), by decide +kernel⟩
def EcQ (p : List Rg × Bool) (w : World) (e : Ending) (w' : World) : Prop := ∃ a c, e = .returned (.tuple #[.slice a p.1.length c, .bool p.2]) ∧ Own .i32 64 w' w.heap.size (.slice a p.1.length c) p.1 ∧ Below w.heap.size w w'
theorem ec_mk {t : List Rg} {v : Value} {w w' : World} (ho : Own .i32 64 w' w.heap.size v t) (hb : Below w.heap.size w w') : EcQ (t, true) w (.returned (.tuple #[v, .bool true])) w' := by
  obtain ⟨a, c, rfl⟩ := own_form ho
  exact ⟨a, c, rfl, ho, hb⟩
set_option maxHeartbeats 1000000 in
theorem cat_xlu (w : World) : Calls Try.prog 24 #[.string ⟨#[76, 117]⟩] w fun e w' => EcQ ([(65, 90)], true) w e w' := by
  have hb0 : Below w.heap.size w (w.alloc (.cells #[.int .i32 65, .int .i32 90] 64)) := (Below.refl _ _).alloc (Nat.le_refl _) _
  have hsl : Sl .i32 (w.alloc (.cells #[.int .i32 65, .int .i32 90] 64)) (.slice (some ⟨w.heap.size, 0, none⟩) 1 1) [(65, 90)] := sl_lit (l := [(65, 90)]) (nw_heap _ _) rfl
  have q1 := of_p _ _ _ hsl (by simp)
  have HQ : Hid _ := And.intro q1 hb0
  clear q1 hb0 hsl
  go_enter Try.func24, Try.ntmps24
  go_wp2_with fail
  refine Calls.mono HQ.out.1 ?_
  rintro e w2 ⟨v2, s2, rfl, hof, hown2, hl2, hb2⟩
  have hs : s2 = [(65, 90)] := (of_same hof).symm.trans (by decide +kernel)
  subst hs
  have H2 : Hid _ := ec_mk (hown2.mono HQ.out.2.size) (HQ.out.2.trans (hb2.mono HQ.out.2.size))
  clear hof hown2 hb2 hl2
  go_wp2_with fail
  go_ret2
  exact H2.out
set_option maxHeartbeats 1000000 in
theorem cat_xll (w : World) : Calls Try.prog 24 #[.string ⟨#[76, 108]⟩] w fun e w' => EcQ ([(97, 122)], true) w e w' := by
  have hb0 : Below w.heap.size w (w.alloc (.cells #[.int .i32 97, .int .i32 122] 64)) := (Below.refl _ _).alloc (Nat.le_refl _) _
  have hsl : Sl .i32 (w.alloc (.cells #[.int .i32 97, .int .i32 122] 64)) (.slice (some ⟨w.heap.size, 0, none⟩) 1 1) [(97, 122)] := sl_lit (l := [(97, 122)]) (nw_heap _ _) rfl
  have q1 := of_p _ _ _ hsl (by simp)
  have HQ : Hid _ := And.intro q1 hb0
  clear q1 hb0 hsl
  go_enter Try.func24, Try.ntmps24
  go_wp2_with fail
  refine Calls.mono HQ.out.1 ?_
  rintro e w2 ⟨v2, s2, rfl, hof, hown2, hl2, hb2⟩
  have hs : s2 = [(97, 122)] := (of_same hof).symm.trans (by decide +kernel)
  subst hs
  have H2 : Hid _ := ec_mk (hown2.mono HQ.out.2.size) (HQ.out.2.trans (hb2.mono HQ.out.2.size))
  clear hof hown2 hb2 hl2
  go_wp2_with fail
  go_ret2
  exact H2.out
set_option maxHeartbeats 1000000 in
theorem cat_xl (w : World) : Calls Try.prog 24 #[.string ⟨#[76]⟩] w fun e w' => EcQ ([(65, 90), (97, 122)], true) w e w' := by
  have hb0 : Below w.heap.size w (w.alloc (.cells #[.int .i32 65, .int .i32 90, .int .i32 97, .int .i32 122] 64)) := (Below.refl _ _).alloc (Nat.le_refl _) _
  have hsl : Sl .i32 (w.alloc (.cells #[.int .i32 65, .int .i32 90, .int .i32 97, .int .i32 122] 64)) (.slice (some ⟨w.heap.size, 0, none⟩) 2 2) [(65, 90), (97, 122)] := sl_lit (l := [(65, 90), (97, 122)]) (nw_heap _ _) rfl
  have q1 := of_p _ _ _ hsl (by simp)
  have HQ : Hid _ := And.intro q1 hb0
  clear q1 hb0 hsl
  go_enter Try.func24, Try.ntmps24
  go_wp2_with fail
  refine Calls.mono HQ.out.1 ?_
  rintro e w2 ⟨v2, s2, rfl, hof, hown2, hl2, hb2⟩
  have hs : s2 = [(65, 90), (97, 122)] := (of_same hof).symm.trans (by decide +kernel)
  subst hs
  have H2 : Hid _ := ec_mk (hown2.mono HQ.out.2.size) (HQ.out.2.trans (hb2.mono HQ.out.2.size))
  clear hof hown2 hb2 hl2
  go_wp2_with fail
  go_ret2
  exact H2.out
set_option maxHeartbeats 1000000 in
theorem cat_xnd (w : World) : Calls Try.prog 24 #[.string ⟨#[78, 100]⟩] w fun e w' => EcQ ([(48, 57)], true) w e w' := by
  have hb0 : Below w.heap.size w (w.alloc (.cells #[.int .i32 48, .int .i32 57] 64)) := (Below.refl _ _).alloc (Nat.le_refl _) _
  have hsl : Sl .i32 (w.alloc (.cells #[.int .i32 48, .int .i32 57] 64)) (.slice (some ⟨w.heap.size, 0, none⟩) 1 1) [(48, 57)] := sl_lit (l := [(48, 57)]) (nw_heap _ _) rfl
  have q1 := of_p _ _ _ hsl (by simp)
  have HQ : Hid _ := And.intro q1 hb0
  clear q1 hb0 hsl
  go_enter Try.func24, Try.ntmps24
  go_wp2_with fail
  refine Calls.mono HQ.out.1 ?_
  rintro e w2 ⟨v2, s2, rfl, hof, hown2, hl2, hb2⟩
  have hs : s2 = [(48, 57)] := (of_same hof).symm.trans (by decide +kernel)
  subst hs
  have H2 : Hid _ := ec_mk (hown2.mono HQ.out.2.size) (HQ.out.2.trans (hb2.mono HQ.out.2.size))
  clear hof hown2 hb2 hl2
  go_wp2_with fail
  go_ret2
  exact H2.out
set_option maxHeartbeats 1000000 in
theorem cat_xn (w : World) : Calls Try.prog 24 #[.string ⟨#[78]⟩] w fun e w' => EcQ ([(48, 57)], true) w e w' := by
  have hb0 : Below w.heap.size w (w.alloc (.cells #[.int .i32 48, .int .i32 57] 64)) := (Below.refl _ _).alloc (Nat.le_refl _) _
  have hsl : Sl .i32 (w.alloc (.cells #[.int .i32 48, .int .i32 57] 64)) (.slice (some ⟨w.heap.size, 0, none⟩) 1 1) [(48, 57)] := sl_lit (l := [(48, 57)]) (nw_heap _ _) rfl
  have q1 := of_p _ _ _ hsl (by simp)
  have HQ : Hid _ := And.intro q1 hb0
  clear q1 hb0 hsl
  go_enter Try.func24, Try.ntmps24
  go_wp2_with fail
  refine Calls.mono HQ.out.1 ?_
  rintro e w2 ⟨v2, s2, rfl, hof, hown2, hl2, hb2⟩
  have hs : s2 = [(48, 57)] := (of_same hof).symm.trans (by decide +kernel)
  subst hs
  have H2 : Hid _ := ec_mk (hown2.mono HQ.out.2.size) (HQ.out.2.trans (hb2.mono HQ.out.2.size))
  clear hof hown2 hb2 hl2
  go_wp2_with fail
  go_ret2
  exact H2.out
set_option maxHeartbeats 1000000 in
theorem cat_xp (w : World) : Calls Try.prog 24 #[.string ⟨#[80]⟩] w fun e w' => EcQ ([(33, 35), (37, 42), (44, 47), (58, 59), (63, 64), (91, 93), (95, 95), (123, 123), (125, 125)], true) w e w' := by
  have q1 := text_p ⟨#[33, 34, 35, 37, 38, 39, 40, 41, 42, 44, 45, 46, 47, 58, 59, 63, 64, 91, 92, 93, 95, 123, 125]⟩ w (by decide) (by decide +kernel)
  have HQ : Hid _ := And.intro q1 trivial
  clear q1
  go_enter Try.func24, Try.ntmps24
  go_wp2_with fail
  refine Calls.mono HQ.out.1 ?_
  rintro e w2 ⟨v2, s2, rfl, hof, hown2, hl2, hb2⟩
  have hs : s2 = [(33, 35), (37, 42), (44, 47), (58, 59), (63, 64), (91, 93), (95, 95), (123, 123), (125, 125)] := (of_same hof).symm.trans (by decide +kernel)
  subst hs
  have H2 : Hid _ := ec_mk hown2 hb2
  clear hof hown2 hb2 hl2
  go_wp2_with fail
  go_ret2
  exact H2.out
set_option maxHeartbeats 1000000 in
theorem cat_xs (w : World) : Calls Try.prog 24 #[.string ⟨#[83]⟩] w fun e w' => EcQ ([(36, 36), (43, 43), (60, 62), (94, 94), (96, 96), (124, 124), (126, 126)], true) w e w' := by
  have q1 := text_p ⟨#[36, 43, 60, 61, 62, 94, 96, 124, 126]⟩ w (by decide) (by decide +kernel)
  have HQ : Hid _ := And.intro q1 trivial
  clear q1
  go_enter Try.func24, Try.ntmps24
  go_wp2_with fail
  refine Calls.mono HQ.out.1 ?_
  rintro e w2 ⟨v2, s2, rfl, hof, hown2, hl2, hb2⟩
  have hs : s2 = [(36, 36), (43, 43), (60, 62), (94, 94), (96, 96), (124, 124), (126, 126)] := (of_same hof).symm.trans (by decide +kernel)
  subst hs
  have H2 : Hid _ := ec_mk hown2 hb2
  clear hof hown2 hb2 hl2
  go_wp2_with fail
  go_ret2
  exact H2.out
set_option maxHeartbeats 1000000 in
theorem cat_xz (w : World) : Calls Try.prog 24 #[.string ⟨#[90]⟩] w fun e w' => EcQ ([(32, 32), (160, 160)], true) w e w' := by
  have hb0 : Below w.heap.size w (w.alloc (.cells #[.int .i32 32, .int .i32 32, .int .i32 160, .int .i32 160] 64)) := (Below.refl _ _).alloc (Nat.le_refl _) _
  have hsl : Sl .i32 (w.alloc (.cells #[.int .i32 32, .int .i32 32, .int .i32 160, .int .i32 160] 64)) (.slice (some ⟨w.heap.size, 0, none⟩) 2 2) [(32, 32), (160, 160)] := sl_lit (l := [(32, 32), (160, 160)]) (nw_heap _ _) rfl
  have q1 := of_p _ _ _ hsl (by simp)
  have HQ : Hid _ := And.intro q1 hb0
  clear q1 hb0 hsl
  go_enter Try.func24, Try.ntmps24
  go_wp2_with fail
  refine Calls.mono HQ.out.1 ?_
  rintro e w2 ⟨v2, s2, rfl, hof, hown2, hl2, hb2⟩
  have hs : s2 = [(32, 32), (160, 160)] := (of_same hof).symm.trans (by decide +kernel)
  subst hs
  have H2 : Hid _ := ec_mk (hown2.mono HQ.out.2.size) (HQ.out.2.trans (hb2.mono HQ.out.2.size))
  clear hof hown2 hb2 hl2
  go_wp2_with fail
  go_ret2
  exact H2.out
set_option maxHeartbeats 1000000 in
theorem cat_xc (w : World) : Calls Try.prog 24 #[.string ⟨#[67]⟩] w fun e w' => EcQ ([(0, 31), (127, 159)], true) w e w' := by
  have hb0 : Below w.heap.size w (w.alloc (.cells #[.int .i32 0, .int .i32 31, .int .i32 127, .int .i32 159] 64)) := (Below.refl _ _).alloc (Nat.le_refl _) _
  have hsl : Sl .i32 (w.alloc (.cells #[.int .i32 0, .int .i32 31, .int .i32 127, .int .i32 159] 64)) (.slice (some ⟨w.heap.size, 0, none⟩) 2 2) [(0, 31), (127, 159)] := sl_lit (l := [(0, 31), (127, 159)]) (nw_heap _ _) rfl
  have q1 := of_p _ _ _ hsl (by simp)
  have HQ : Hid _ := And.intro q1 hb0
  clear q1 hb0 hsl
  go_enter Try.func24, Try.ntmps24
  go_wp2_with fail
  refine Calls.mono HQ.out.1 ?_
  rintro e w2 ⟨v2, s2, rfl, hof, hown2, hl2, hb2⟩
  have hs : s2 = [(0, 31), (127, 159)] := (of_same hof).symm.trans (by decide +kernel)
  subst hs
  have H2 : Hid _ := ec_mk (hown2.mono HQ.out.2.size) (HQ.out.2.trans (hb2.mono HQ.out.2.size))
  clear hof hown2 hb2 hl2
  go_wp2_with fail
  go_ret2
  exact H2.out
set_option maxHeartbeats 1000000 in
theorem cat_no (s : ByteArray) (w : World) (h0 : s.data.toList ≠ [76, 117]) (h1 : s.data.toList ≠ [76, 108]) (h2 : s.data.toList ≠ [76]) (h3 : s.data.toList ≠ [78, 100]) (h4 : s.data.toList ≠ [78]) (h5 : s.data.toList ≠ [80]) (h6 : s.data.toList ≠ [83]) (h7 : s.data.toList ≠ [90]) (h8 : s.data.toList ≠ [67]) : Calls Try.prog 24 #[.string s] w fun e w' => EcQ ([], false) w e w' := by
  have g0 : (s.toList == [76, 117]) = false := by rw [ByteArray.toList_eq]; simpa using h0
  have g1 : (s.toList == [76, 108]) = false := by rw [ByteArray.toList_eq]; simpa using h1
  have g2 : (s.toList == [76]) = false := by rw [ByteArray.toList_eq]; simpa using h2
  have g3 : (s.toList == [78, 100]) = false := by rw [ByteArray.toList_eq]; simpa using h3
  have g4 : (s.toList == [78]) = false := by rw [ByteArray.toList_eq]; simpa using h4
  have g5 : (s.toList == [80]) = false := by rw [ByteArray.toList_eq]; simpa using h5
  have g6 : (s.toList == [83]) = false := by rw [ByteArray.toList_eq]; simpa using h6
  have g7 : (s.toList == [90]) = false := by rw [ByteArray.toList_eq]; simpa using h7
  have g8 : (s.toList == [67]) = false := by rw [ByteArray.toList_eq]; simpa using h8
  clear h0 h1 h2 h3 h4 h5 h6 h7 h8
  go_enter Try.func24, Try.ntmps24
  go_wp2_with fail
  go_ret2
  exact ⟨none, 0, rfl, Own.nil _ _ _ _, Below.refl _ _⟩
theorem cat_p (s : ByteArray) (w : World) : Calls Try.prog 24 #[.string s] w fun e w' => EcQ (catS s.data.toList) w e w' := by
  have hs : ∀ l : List UInt8, s.data.toList = l → s = ⟨l.toArray⟩ := fun l h => by cases s; subst h; simp
  unfold catS
  by_cases h0 : s.data.toList = [76, 117]
  · rw [if_pos h0, hs _ h0]
    exact cat_xlu w
  rw [if_neg h0]
  by_cases h1 : s.data.toList = [76, 108]
  · rw [if_pos h1, hs _ h1]
    exact cat_xll w
  rw [if_neg h1]
  by_cases h2 : s.data.toList = [76]
  · rw [if_pos h2, hs _ h2]
    exact cat_xl w
  rw [if_neg h2]
  by_cases h3 : s.data.toList = [78, 100]
  · rw [if_pos h3, hs _ h3]
    exact cat_xnd w
  rw [if_neg h3]
  by_cases h4 : s.data.toList = [78]
  · rw [if_pos h4, hs _ h4]
    exact cat_xn w
  rw [if_neg h4]
  by_cases h5 : s.data.toList = [80]
  · rw [if_pos h5, hs _ h5]
    exact cat_xp w
  rw [if_neg h5]
  by_cases h6 : s.data.toList = [83]
  · rw [if_pos h6, hs _ h6]
    exact cat_xs w
  rw [if_neg h6]
  by_cases h7 : s.data.toList = [90]
  · rw [if_pos h7, hs _ h7]
    exact cat_xz w
  rw [if_neg h7]
  by_cases h8 : s.data.toList = [67]
  · rw [if_pos h8, hs _ h8]
    exact cat_xc w
  rw [if_neg h8]
  exact cat_no s w h0 h1 h2 h3 h4 h5 h6 h7 h8
end Go.Proofs.Ythlkbijpphdblaa
