/- Contracts of the reference's Words and Space. -/
import Derived.Test.YtgaegajcejpmdaaGreatDoorHJ43
namespace Go.Proofs.YtgaegajcejpmdaaGreatDoor.Ch
open Go.RowKit
set_option linter.unusedVariables false

theorem size_zero {s : ByteArray} (h : s.size = 0) : s = ⟨#[]⟩ := by
  cases s with
  | mk d =>
    have h' : d.size = 0 := h
    have : d = #[] := Array.eq_empty_of_size_eq_zero h'
    subst this
    rfl
theorem toList_ne {s : ByteArray} (h : ¬ s.size = 0) : s.toList.isEmpty = false := by
  have hsz : s.toList.length ≠ 0 := by rw [Lib.toList_data, Array.length_toList]; exact h
  cases hl : s.toList with
  | nil => rw [hl] at hsz; simp at hsz
  | cons a l => rfl
theorem bl_app (a b : ByteArray) : bl (a ++ b) = bl a ++ bl b := by
  simp [bl]
theorem bl_one (s : ByteArray) (k : Nat) (h : k < s.size) : bl (s.extract k (k + 1)) = [(bl s).getD k 0] := by
  have h' : k < s.data.size := h
  rw [bl_at s k h]
  unfold bl
  simp
  rw [List.drop_eq_getElem_cons (by simpa using h')]
  simp
  rfl
theorem own_strs {w : World} {base n : Nat} {v : Value} {l : List ByteArray} (h : w.ownsRow base 9 1 v n (l.map Value.string)) : ∃ a cap, v = .slice a l.length cap ∧ cap ≤ maxLen ∧ Sts w a l := by
  have hn : n = l.length := by have := h.1; simp at this; omega
  subst hn
  rcases h.2 with ⟨rfl, h0⟩ | ⟨g, cap, cur, rfl, hbg, hg, hnc, hcm, hcs, htake⟩
  · exact ⟨none, 0, by rw [h0], Nat.zero_le _, .inl (List.eq_nil_of_length_eq_zero h0)⟩
  · refine ⟨_, cap, rfl, hcm, .inr ⟨g, rfl, fun i hi => ?_⟩⟩
    have := h.cells (g := g) rfl i (.string (l.getD i ⟨#[]⟩)) (by simp [List.getD_eq_getElem?_getD, hi])
    rw [addr_add, Nat.zero_add] at this
    exact this

def WRel (w : World) (n : Nat) (l : List Int) (v3 v4 i : Value) (wr : World) : Prop :=
  ∃ (k : Nat) (done : List ByteArray) (cur : ByteArray), k ≤ n + 1 ∧ i = .int .i64 k ∧ v4 = .string cur ∧ wr.ownsRow w.heap.size 9 1 v3 done.length (done.map Value.string) ∧ Below w.heap.size w wr ∧ done.length ≤ k ∧ cur.size ≤ k ∧
    ((k ≤ n ∧ (wd l []).map sb = done ++ (wd (l.drop k) (bl cur)).map sb) ∨ (k = n + 1 ∧ (wd l []).map sb = done))

set_option maxHeartbeats 1000000 in
theorem rwords_any (s : ByteArray) (w : World) (hs : s.size ≤ 100000) :
    Calls Tryz.prog 66 #[.string s] w fun e w' => ∃ a cap, e = .returned (.slice a (wordsOf (bl s)).length cap) ∧ Sts w' a (wordsOf (bl s)) ∧ Below w.heap.size w w' := by
  obtain ⟨i0, hi, hz0, hz1, hz2⟩ := info_parts info9
  rw [wordsOf_wd]
  go_enter Tryz.func66, Tryz.ntmps66
  go_wp2
  go_loopw [3, 4, 5] (fun v3 v4 i wr => WRel w s.size (bl s) v3 v4 i wr) (fun _ _ i _ => s.size + 1 - (intOf i).toNat)
  case atStart => exact ⟨0, [], ⟨#[]⟩, Nat.zero_le _, rfl, rfl, World.ownsRow_nil _ _ _ _, Below.refl _ _, Nat.zero_le _, Nat.zero_le _, .inl ⟨Nat.zero_le _, rfl⟩⟩
  case round =>
    obtain ⟨k, done, cur, hk, rfl, rfl, hown, hB, hdl, hcs, hall⟩ := hrel
    have HB : Hid _ := hB
    clear hB
    by_cases hle : k ≤ s.size
    · have hall' : (wd (bl s) []).map sb = done ++ (wd ((bl s).drop k) (bl cur)).map sb := by
        rcases hall with h | h
        · exact h.2
        · omega
      clear hall
      by_cases hlt : k < s.size
      · have hdk := drop_at (bl s) k (by rw [bl_len]; exact hlt)
        have hat := bl_at s k hlt
        rw [hdk, hat] at hall'
        have h1 := bl_one s k hlt
        rw [hat] at h1
        have H1 : Hid _ := h1
        have hk1 : (k : Int) + 1 ≤ (s.size : Int) := by omega
        have hbd : (s[k].toNat : Int) < 256 := by have := s[k].toNat_lt; omega
        clear hdk hat h1
        by_cases hw : isWhite (s[k].toNat : Int) = true
        · simp only [wd] at hall'
          rw [if_pos hw] at hall'
          by_cases h0 : cur.size = 0
          · have hc0 := size_zero h0
            subst hc0
            rw [if_pos (by rfl)] at hall'
            have HA : Hid _ := hall'
            clear hall' h0
            go_wp2_with (go_at_call 65; refine (rwhite_any _ _).mono ?_; rintro e w' ⟨rfl, rfl⟩)
            go_roundw
            case rel => exact ⟨k + 1, done, ⟨#[]⟩, by omega, by go_num, rfl, hown, HB.out, by omega, Nat.zero_le _, .inl ⟨by omega, HA.out⟩⟩
            case measure => simp [intOf]; omega
          · have hne := toList_ne h0
            rw [if_neg (by rw [bl_len]; exact h0)] at hall'
            have HA : Hid _ := hall'
            clear hall' h0
            go_wp2_with (first | (go_at_call 65; refine (rwhite_any _ _).mono ?_; rintro e wq ⟨rfl, rfl⟩) | (at_builtin; refine wpList_append_own _ rfl (.tmp 33) (.tmp 35) 62 rfl w.heap.size 9 i0 (.string ⟨#[]⟩) 1 16 Tryz.underlying62 hi hz0 hz1 hz2 rfl (by decide) _ _ _ rfl (hown.alloc _) ⟨wq.heap.size, 0, none⟩ 1 1 [.string cur] rfl rfl (cell_one_new _ _ _) (by intro u hu; simp at hu; subst hu; rfl) (by unfold maxLen; omega) (by omega) (by have := HB.out.size; simp; omega) ?_; intro v3n w3 hown3 hgr3 _))
            go_roundw
            case rel =>
              refine ⟨k + 1, done ++ [cur], ⟨#[]⟩, by omega, by go_num, rfl, by simpa using hown3, (HB.out.alloc HB.out.size _).grown hgr3 (by have := HB.out.size; simp; omega) (fun j hj => (hown.lt j hj).1), by simp; omega, Nat.zero_le _, .inl ⟨by omega, ?_⟩⟩
              rw [HA.out]
              simp [sb_bl]
              rfl
            case measure => simp [intOf]; omega
        · simp only [wd] at hall'
          rw [if_neg hw] at hall'
          have hw' : isWhite (s[k].toNat : Int) = false := by simpa using hw
          have HA : Hid _ := hall'
          clear hall' hw
          go_wp2_with (go_at_call 65; refine (rwhite_any _ _).mono ?_; rintro e w' ⟨rfl, rfl⟩)
          go_roundw
          case rel =>
            refine ⟨k + 1, done, cur ++ s.extract k (k + 1), by omega, by go_num, rfl, hown, HB.out, by omega, by simp; omega, .inl ⟨by omega, ?_⟩⟩
            rw [HA.out, bl_app, H1.out]
          case measure => simp [intOf]; omega
      · have hkn : k = s.size := by omega
        rw [List.drop_eq_nil_of_le (by rw [bl_len]; omega)] at hall'
        simp only [wd] at hall'
        by_cases h0 : cur.size = 0
        · have hc0 := size_zero h0
          subst hc0
          rw [if_pos (by rfl)] at hall'
          have HA : Hid _ := hall'
          clear hall' h0
          go_wp2
          go_roundw
          case rel => exact ⟨k + 1, done, ⟨#[]⟩, by omega, by go_num, rfl, hown, HB.out, by omega, Nat.zero_le _, .inr ⟨by omega, by rw [HA.out]; simp⟩⟩
          case measure => simp [intOf]; omega
        · have hne := toList_ne h0
          rw [if_neg (by rw [bl_len]; exact h0)] at hall'
          have HA : Hid _ := hall'
          clear hall' h0
          go_wp2_with (at_builtin; refine wpList_append_own _ rfl (.tmp 33) (.tmp 35) 62 rfl w.heap.size 9 i0 (.string ⟨#[]⟩) 1 16 Tryz.underlying62 hi hz0 hz1 hz2 rfl (by decide) _ _ _ rfl (hown.alloc _) ⟨wr.heap.size, 0, none⟩ 1 1 [.string cur] rfl rfl (cell_one_new _ _ _) (by intro u hu; simp at hu; subst hu; rfl) (by unfold maxLen; omega) (by omega) (by have := HB.out.size; simp; omega) ?_; intro v3n w3 hown3 hgr3 _)
          go_roundw
          case rel =>
            refine ⟨k + 1, done ++ [cur], ⟨#[]⟩, by omega, by go_num, rfl, by simpa using hown3, (HB.out.alloc HB.out.size _).grown hgr3 (by have := HB.out.size; simp; omega) (fun j hj => (hown.lt j hj).1), by simp; omega, Nat.zero_le _, .inr ⟨by omega, ?_⟩⟩
            rw [HA.out]
            simp [sb_bl]
          case measure => simp [intOf]; omega
    · have hall' : (wd (bl s) []).map sb = done := by
        rcases hall with h | h
        · omega
        · exact h.2
      obtain ⟨a, cap, rfl, hcm, hst⟩ := own_strs hown
      have HA : Hid _ := hall'
      clear hall hall' hown
      go_wp2
      go_ret
      rw [HA.out]
      exact ⟨a, cap, rfl, hst, HB.out⟩

theorem join_take (ws : List (List Int)) (k : Nat) (h : k < ws.length) : join (ws.take (k + 1)) = if k = 0 then ws.getD k [] else join (ws.take k) ++ 32 :: ws.getD k [] := by
  have e : ws.take (k + 1) = ws.take k ++ [ws.getD k []] := by
    rw [List.take_succ_eq_append_getElem h]
    simp [List.getD_eq_getElem?_getD, h]
  rw [e]
  by_cases h0 : k = 0
  · subst h0; simp [join]
  · rw [if_neg h0, join_snoc _ (by intro g; have := congrArg List.length g; rw [List.length_take, Nat.min_eq_left (by omega)] at this; exact h0 this)]
theorem wd_bd (l : List Int) : ∀ cur, (∀ i, 0 ≤ l.getD i 0 ∧ l.getD i 0 < 256) → (∀ i, 0 ≤ cur.getD i 0 ∧ cur.getD i 0 < 256) → ∀ w ∈ wd l cur, ∀ i, 0 ≤ w.getD i 0 ∧ w.getD i 0 < 256 := by
  induction l with
  | nil =>
    intro cur hl hc w hw
    simp only [wd] at hw
    split at hw
    · simp at hw
    · simp at hw; subst hw; exact hc
  | cons c l ih =>
    intro cur hl hc w hw
    have hl' : ∀ i, 0 ≤ l.getD i 0 ∧ l.getD i 0 < 256 := fun i => by simpa using hl (i + 1)
    have h0 : 0 ≤ c ∧ c < 256 := by simpa using hl 0
    have hn : ∀ i, 0 ≤ ([] : List Int).getD i 0 ∧ ([] : List Int).getD i 0 < 256 := by intro i; simp
    simp only [wd] at hw
    split at hw
    · split at hw
      · exact ih [] hl' hn w hw
      · rcases List.mem_cons.1 hw with rfl | h
        · exact hc
        · exact ih [] hl' hn w h
    · exact ih (cur ++ [c]) hl' (getD_app hc c h0.1 h0.2) w hw
theorem word_bd (l : List Int) (h : ∀ i, 0 ≤ l.getD i 0 ∧ l.getD i 0 < 256) (k : Nat) : ∀ i, 0 ≤ ((wd l []).getD k []).getD i 0 ∧ ((wd l []).getD k []).getD i 0 < 256 := by
  have hn : ∀ i, 0 ≤ ([] : List Int).getD i 0 ∧ ([] : List Int).getD i 0 < 256 := by intro i; simp
  rcases Nat.lt_or_ge k (wd l []).length with g | g
  · refine wd_bd l [] h hn _ ?_
    rw [List.getD_eq_getElem?_getD, List.getElem?_eq_getElem g]
    exact List.getElem_mem g
  · rw [List.getD_eq_getElem?_getD, List.getElem?_eq_none g]
    exact hn
theorem join_grow (t r : List (List Int)) : (join t).length ≤ (join (t ++ r)).length := by
  induction t with
  | nil => simp [join]
  | cons a t ih =>
    cases t with
    | nil =>
      cases r with
      | nil => simp
      | cons b r => simp [join]
    | cons b t =>
      simp only [List.cons_append, join, List.length_append, List.length_cons] at ih ⊢
      omega
theorem join_le (ws : List (List Int)) (k : Nat) : (join (ws.take k)).length ≤ (join ws).length := by
  have := join_grow (ws.take k) (ws.drop k)
  rw [List.take_append_drop] at this
  exact this
theorem word_le (ws : List (List Int)) (k : Nat) (h : k < ws.length) : (ws.getD k []).length ≤ (join ws).length := by
  have h1 := join_take ws k h
  have h2 := join_le ws (k + 1)
  rw [h1] at h2
  split at h2
  · exact h2
  · rw [List.length_append, List.length_cons] at h2; omega

set_option maxHeartbeats 1000000 in
theorem rspace_col (s : ByteArray) (w : World) (hs : s.size ≤ 100000) :
    Calls Tryz.prog 39 #[.string s, .int .i64 3] w fun e w' => e = .returned (.string (sb (col (bl s) [] false))) ∧ Below w.heap.size w w' := by
  have hcl := col_len (bl s) [] false
  rw [bl_len] at hcl
  simp at hcl
  have hwl := words_le (bl s)
  rw [bl_len] at hwl
  rw [wordsOf_wd, List.length_map] at hwl
  have hbd := col_bd (bl s) [] false (bl_bd s) (by intro i; simp)
  have hwd := wordsOf_wd (bl s)
  have hcj := col_join (bl s)
  rw [hcj] at hcl hbd ⊢
  have HW : Hid _ := hwd
  have hwb : ∀ k, k < (wd (bl s) []).length → bl (sb ((wd (bl s) []).getD k [])) = (wd (bl s) []).getD k [] := fun k hk => bl_sb _ (word_bd (bl s) (bl_bd s) k)
  have HWB : Hid _ := hwb
  clear hwd hcj hwb
  go_enter Tryz.func39, Tryz.ntmps39
  go_wp2_with fail
  refine (rwords_any s _ hs).mono ?_
  rw [HW.out]
  clear HW
  generalize hws : wd (bl s) [] = ws at *
  have HWS : Hid _ := hws
  clear hws
  rintro e w2 ⟨a, cap, rfl, hst, hB⟩
  rw [List.length_map]
  have HS : Hid _ := hst
  have HB : Hid _ := hB
  have HBd : Hid _ := hbd
  clear hst hB hbd
  go_wp2
  go_loop [8, 9] (fun v8 v9 => ∃ (k : Nat) (t : ByteArray), k ≤ ws.length ∧ v9 = .int .i64 k ∧ v8 = .string t ∧ bl t = join (ws.take k)) (fun _ i => ws.length - (intOf i).toNat)
  case atStart => exact ⟨0, ⟨#[]⟩, Nat.zero_le _, rfl, rfl, rfl⟩
  case round =>
    obtain ⟨k, t, hk, rfl, rfl, ht⟩ := hrel
    have hts : t.size ≤ 100000 := by rw [← bl_len, ht]; have := join_le ws k; omega
    have HT : Hid _ := ht
    clear ht
    by_cases hlt : k < ws.length
    · rcases HS.out with h0 | ⟨b, rfl, hc⟩
      · have := congrArg List.length h0; simp at this; rw [this] at hlt; simp at hlt
      have hck := hc k (by simpa using hlt)
      rw [getD_sb ws k hlt] at hck
      have hwk := word_le ws k hlt
      have hwz : (sb (ws.getD k [])).size ≤ 100000 := by rw [sb_size]; omega
      have HJ : Hid _ := join_take ws k hlt
      have HK : Hid _ := HWB.out k hlt
      clear hc hwk
      generalize hx : sb (ws.getD k []) = x at *
      clear hx
      by_cases h0 : k = 0
      · subst h0
        go_wp2
        go_round
        case rel =>
          refine ⟨1, t ++ x, by omega, rfl, rfl, ?_⟩
          rw [bl_app, HT.out, HK.out, HJ.out]
          simp [join]
        case measure => simp [intOf]; omega
      · have hpos : (0 : Int) < (k : Int) := by omega
        go_wp2
        go_round
        case rel =>
          refine ⟨k + 1, t ++ ⟨#[32]⟩ ++ x, by omega, by go_num, rfl, ?_⟩
          rw [bl_app, bl_app, HT.out, HK.out, HJ.out, if_neg h0, List.append_assoc]
          rfl
        case measure => simp [intOf]; omega
    · have hfin : Hid (t = sb (join ws)) := by
        show _ = _
        rw [← sb_bl t, HT.out, List.take_of_length_le (by omega)]
      go_wp2
      go_ret
      refine ⟨?_, HB.out⟩
      rw [HWS.out, ← hfin.out]; rfl

set_option maxHeartbeats 1000000 in
theorem rspace_rep (s : ByteArray) (w : World) (hs : s.size ≤ 100000) :
    Calls Tryz.prog 39 #[.string s, .int .i64 2] w fun e w' => e = .returned (.string (sb ((bl s).map rp))) ∧ Below w.heap.size w w' := by
  obtain ⟨cap, w1, hc, hcm, hrun, hbel, hcell, hfr⟩ := conv_free s w (by unfold maxLen; omega)
  have hstart : RepRel w s.size (bl s) (.int .i64 0) w1 := ⟨0, Nat.zero_le _, rfl, hbel, hfr, fun j hj => by rw [hcell j hj]; simp⟩
  have HS : Hid _ := hstart
  have HBd : Hid _ := bl_bd s
  have HL : Hid _ := bl_len s
  clear hstart hbel hcell hfr hc hcm
  generalize bl s = l at *
  go_enter Tryz.func39, Tryz.ntmps39
  go_wp2
  go_loopw [6] (fun i wr => RepRel w s.size l i wr) (fun i _ => s.size - (intOf i).toNat)
  case atStart => exact HS.out
  case round =>
    obtain ⟨k, hk, rfl, hbel, hfr, hcell⟩ := hrel
    have HB : Hid _ := hbel
    have HF : Hid _ := hfr
    have HC : Hid _ := hcell
    clear hbel HS hrun
    by_cases hlt : k < s.size
    · have hfk := hfr k hlt
      have hck := hcell k hlt
      rw [if_neg (Nat.lt_irrefl k)] at hck
      have hb1 := (HBd.out k).1
      have hb2 := (HBd.out k).2
      clear hfr hcell
      by_cases hw : isWhite (l.getD k 0) = true
      · have hr : Hid (rp (l.getD k 0) = 32) := by show _ = _; unfold rp; rw [if_pos hw]
        generalize hx : l.getD k 0 = c at *
        have HX : Hid _ := hx
        clear hx
        go_wp2_with (go_at_call 65; refine (rwhite_any _ _).mono ?_; rintro e w' ⟨rfl, rfl⟩)
        go_roundw
        case rel =>
          refine ⟨k + 1, by omega, by go_num, HB.out.setCell (Nat.le_refl _) _, fun j hj => by simpa using HF.out j hj, fun j hj => ?_⟩
          by_cases e : j = k
          · subst e
            rw [World.cell?_setCell_same' _ _ _ (by rw [hck]; rfl), if_pos (by omega), HX.out, hr.out]
          · rw [World.cell?_setCell_other _ _ _ _ (addr_ne _ (fun h => e h.symm)), HC.out j hj]
            by_cases g : j < k
            · rw [if_pos g, if_pos (by omega)]
            · rw [if_neg g, if_neg (by omega)]
        case measure => simp [intOf]; omega
      · have hw' : isWhite (l.getD k 0) = false := by simpa using hw
        have hr : Hid (rp (l.getD k 0) = l.getD k 0) := by show _ = _; unfold rp; rw [if_neg hw]
        clear hw
        generalize hx : l.getD k 0 = c at *
        have HX : Hid _ := hx
        clear hx
        go_wp2_with (go_at_call 65; refine (rwhite_any _ _).mono ?_; rintro e w' ⟨rfl, rfl⟩)
        go_roundw
        case rel =>
          refine ⟨k + 1, by omega, by go_num, HB.out, HF.out, fun j hj => ?_⟩
          rw [HC.out j hj]
          by_cases g : j < k
          · rw [if_pos g, if_pos (by omega)]
          · rw [if_neg g]
            by_cases e : j = k
            · subst e; rw [if_pos (by omega), HX.out, hr.out]
            · rw [if_neg (by omega)]
        case measure => simp [intOf]; omega
    · have hcv := conv_string w.heap.size 0 cap (l.map rp) wr (fun j hj => by
        rw [List.length_map] at hj
        rw [Nat.zero_add, HC.out j (by rw [← HL.out]; exact hj), if_pos (by rw [HL.out] at hj; omega), rp_getD l j hj])
      rw [List.length_map, HL.out] at hcv
      clear hfr hcell
      go_wp2
      go_ret
      exact ⟨rfl, HB.out⟩
set_option maxHeartbeats 400000 in
theorem rspace_any (s : ByteArray) (how : Int) (w : World) (hs : s.size ≤ 100000) :
    Calls Tryz.prog 39 #[.string s, .int .i64 how] w fun e w' => e = .returned (.string (spc s how)) ∧ Below w.heap.size w w' := by
  by_cases h2 : how = 2
  · subst h2; exact rspace_rep s w hs
  · by_cases h3 : how = 3
    · subst h3; exact rspace_col s w hs
    · have e2 : (how == 2) = false := beq_eq_false_iff_ne.2 h2
      have e3 : (how == 3) = false := beq_eq_false_iff_ne.2 h3
      have hq : Hid (spc s how = s) := by show _ = _; unfold spc; rw [if_neg h2, if_neg h3]
      clear h2 h3
      go_enter Tryz.func39, Tryz.ntmps39
      go_wp2
      go_ret
      refine ⟨?_, Below.refl _ _⟩
      rw [hq.out]; rfl
end Go.Proofs.YtgaegajcejpmdaaGreatDoor.Ch
