/- The walk of XmlMismatch. -/
import Derived.Test.YtjcgnbmpnaapdabDoorBuilt
import Derived.Test.YtjcgnbmpnaapdabDoorEvs
namespace Go.Proofs.YtjcgnbmpnaapdabDoor
open Go.RowKit
set_option linter.unusedVariables false

set_option maxRecDepth 100000 in
theorem nmf_s (c : Int) (w : World) (h0 : 0 ≤ c) (h1 : c < 256) : Calls Tryd.prog 7 #[.int .u8 c] w fun e w' => e = .returned (.string (sb (M.nmOf c))) ∧ Below w.heap.size w w' := by
  have hm0 : 0 ≤ c % 26 := Int.emod_nonneg c (by omega)
  have hm1 : c % 26 < 26 := Int.emod_lt_of_pos c (by omega)
  have hcv : (convert 27 9 (.slice (some ⟨w.heap.size, 0, none⟩) 1 1)).run Tryd.prog (w.alloc (.cells #[.int .u8 (97 + c % 26)] 5)) = .ok (.string (sb [97 + c % 26])) (w.alloc (.cells #[.int .u8 (97 + c % 26)] 5)) := conv_string w.heap.size 0 1 [97 + c % 26] (w.alloc (.cells #[.int .u8 (97 + c % 26)] 5)) (by
    intro i hi
    have : i = 0 := by simp at hi; omega
    subst this
    exact Bk.cell (i := 0) (heap_alloc_new w (.cells #[.int .u8 (97 + c % 26)] 5)))
  have htm : c.tmod 26 = c % 26 := Int.tmod_eq_emod_of_nonneg h0
  go_enter Tryd.func7, Tryd.ntmps7
  have hsz : (sb [97 + c % 26]).size = 1 := sb_size _
  go_wp2_with fail
  go_ret
  refine ⟨?_, (Below.refl _ _).alloc (Nat.le_refl _) _⟩
  show Ending.returned (.string (sb [110] ++ sb [97 + c % 26])) = _
  rw [sb_append]
  rfl
theorem nm_bd (c : Int) : Bd (M.nmOf c) := by
  have hm0 : 0 ≤ c % 26 := Int.emod_nonneg c (by omega)
  have hm1 : c % 26 < 26 := Int.emod_lt_of_pos c (by omega)
  refine bd_mem fun x hx => ?_
  simp [M.nmOf] at hx
  omega
theorem opens_bdm (l : Bs) : Bd (M.opens (l.map M.nmOf)) := by
  induction l with
  | nil => exact bd_mem (by simp [M.opens])
  | cons c l ih =>
    have e : M.opens ((c :: l).map M.nmOf) = [60] ++ (M.nmOf c ++ ([62] ++ M.opens (l.map M.nmOf))) := by simp [M.opens]
    rw [e]
    exact bd_append (bd_mem (by decide)) (bd_append (nm_bd c) (bd_append (bd_mem (by decide)) ih))
theorem closes_bdm (l : Bs) : Bd (M.closes (l.map M.nmOf)) := by
  induction l with
  | nil => exact bd_mem (by simp [M.closes])
  | cons c l ih =>
    have e : M.closes ((c :: l).map M.nmOf) = [60, 47] ++ (M.nmOf c ++ ([62] ++ M.closes (l.map M.nmOf))) := by simp [M.closes]
    rw [e]
    exact bd_append (bd_mem (by decide)) (bd_append (nm_bd c) (bd_append (bd_mem (by decide)) ih))
theorem nms_len (l : Bs) : ∀ w ∈ l.map M.nmOf, w.length = 2 := by
  intro w hw
  simp at hw
  obtain ⟨c, _, rfl⟩ := hw
  rfl
/-- Names by their numbers, as far as a place. -/
abbrev ns (l : Bs) : List Bs := l.map M.nmOf
theorem opens_snoc (l : Bs) (i : Nat) (c : Int) (h : l[i]? = some c) : M.opens (ns (l.take (i + 1))) = M.opens (ns (l.take i)) ++ ([60] ++ (M.nmOf c ++ [62])) := by
  have e : l.take (i + 1) = l.take i ++ [c] := by rw [List.take_add_one, h]; rfl
  unfold ns
  rw [e, List.map_append, M.opens_app]
  rfl
/-- The ends from a place on, from the last to the first. -/
abbrev cl (l : Bs) (i : Nat) : Bs := M.closes ((ns (l.drop i)).reverse)
theorem cl_step (l : Bs) (i : Nat) (c : Int) (h : l[i]? = some c) : cl l i = cl l (i + 1) ++ ([60, 47] ++ (M.nmOf c ++ [62])) := by
  obtain ⟨hi, hc⟩ := List.getElem?_eq_some_iff.1 h
  have e : l.drop i = c :: l.drop (i + 1) := by rw [← hc, List.getElem_cons_drop]
  unfold cl ns
  rw [e, List.map_cons, List.reverse_cons, M.closes_app]
  rfl
theorem cl_len (l : Bs) (i : Nat) : (cl l i).length = 5 * (l.length - i) := by
  rw [cl, M.closes_len, M.opens_len2, List.length_reverse, List.length_map, List.length_drop]
  · omega
  · intro w hw
    exact nms_len (l.drop i) w (List.mem_reverse.1 hw)
theorem cl_bd (l : Bs) (i : Nat) : Bd (cl l i) := by
  unfold cl ns
  rw [← List.map_reverse]
  exact closes_bdm _
theorem BI.at {w : World} {vb : Value} {l : Bs} (h : BI w vb l) (h0 : l ≠ []) : ∃ A c, vb = .slice (some A) l.length c ∧ ∀ j x, l[j]? = some x → w.cell? (A.add j) = some (.int .u8 x) ∧ 0 ≤ x ∧ x < 256 := by
  rcases h.fm with ⟨_, h1⟩ | ⟨A, c, rfl, hc⟩
  · exact absurd h1 h0
  · refine ⟨A, c, rfl, fun j x hx => ⟨hc j _ (by rw [List.getElem?_map, hx]; rfl), ?_⟩⟩
    have := h.bd j
    rw [List.getD_eq_getElem?_getD, hx] at this
    exact this
theorem op_len (l : Bs) : (M.opens (ns l)).length = 4 * l.length := by rw [M.opens_len2 _ (nms_len l), List.length_map]
theorem mism_no {w : World} {vb : Value} {l : Bs} (k o : Int) (h : BI w vb l) (hT : Tab w) (hn : l.length = 0 ∨ 40 < l.length ∨ k < 0 ∨ (l.length : Int) ≤ k) :
    Calls Tryd.prog 4 #[vb, .int .i64 k, .int .u8 o] w fun e w' => e = .returned (.bool true) ∧ Below w.heap.size w w' := by
  obtain ⟨sa, sc, hv⟩ : ∃ sa sc, vb = .slice sa l.length sc := by
    rcases h.fm with ⟨rfl, rfl⟩ | ⟨A, c, rfl, _⟩
    · exact ⟨none, 0, rfl⟩
    · exact ⟨_, c, rfl⟩
  subst hv
  have HT : Hid _ := hT
  clear hT h
  generalize l.length = N at *
  go_enter Tryd.func4, Tryd.ntmps4
  go_wp2_with fail
  refine (known_s HT.out).mono ?_
  rintro e w2 ⟨rfl, hb2⟩
  have HB2 : Hid _ := hb2
  clear hb2
  by_cases h1 : N = 0
  · subst h1
    go_wp2_with fail
    go_ret
    exact ⟨rfl, HB2.out⟩
  by_cases h2 : 40 < N
  · go_wp2_with fail
    go_ret
    exact ⟨rfl, HB2.out⟩
  by_cases h3 : k < 0
  · go_wp2_with fail
    go_ret
    exact ⟨rfl, HB2.out⟩
  · have h4 : (N : Int) ≤ k := by omega
    go_wp2_with fail
    go_ret
    exact ⟨rfl, HB2.out⟩
/-- Where the end that does not fit stands. -/
def whr (n k t : Nat) : Int := if t ≤ k then ((4 * n + 5 * (n - (k + 1)) : Nat) : Int) else 0
set_option maxRecDepth 100000 in
set_option maxHeartbeats 6400000 in
theorem mism_walk {w : World} {vb : Value} {l : Bs} (k : Nat) (o : Int) (h : BI w vb l) (hT : Tab w) (h0l : l ≠ []) (h40 : l.length ≤ 40) (hk : k < l.length) (ho0 : 0 ≤ o) (ho1 : o < 256) :
    Calls Tryd.prog 4 #[vb, .int .i64 k, .int .u8 o] w fun e w' => e = .returned (.bool true) ∧ Below w.heap.size w w' := by
  have h0 : 0 < w.heap.size := World.block_lt_of_cell? w _ hT.a
  obtain ⟨A, ca, rfl, hcell⟩ := h.at h0l
  have HT : Hid _ := hT
  have HC : Hid _ := hcell
  clear hT h hcell
  have hlp : 0 < l.length := List.length_pos_iff.2 h0l
  have hq1 : ((l.length : Int) == 0) = false := by simp; exact h0l
  have hq2 : decide (40 < (l.length : Int)) = false := by simp; omega
  have hq3 : decide ((k : Int) < 0) = false := by simp
  have hq4 : decide (l.length ≤ k) = false := by simp; omega
  go_enter Tryd.func4, Tryd.ntmps4
  go_wp2_with fail
  refine (known_s HT.out).mono ?_
  rintro e w2 ⟨rfl, hb2⟩
  have hz2 := hb2.size
  have HB2 : Hid _ := hb2
  clear hb2
  go_wp2_with fail
  go_loopg [7, 8] l.length (fun m v7 v8 wr => ∃ i : Nat, v7 = .string (sb (M.opens (ns (l.take i)))) ∧ v8 = .int .i64 i ∧ i + m = l.length ∧ Below w.heap.size w wr)
  case atStart => exact ⟨0, rfl, rfl, by omega, HB2.out⟩
  case round =>
    obtain ⟨i, rfl, rfl, him, hbr⟩ := hrel
    have hzr := hbr.size
    have HBr : Hid _ := hbr
    by_cases hi : i < l.length
    · obtain ⟨m, rfl⟩ : ∃ m, gk = m + 1 := ⟨gk - 1, by omega⟩
      obtain ⟨c, hc⟩ : ∃ c, l[i]? = some c := ⟨_, List.getElem?_eq_getElem hi⟩
      obtain ⟨x0, hc0, hc1⟩ := HC.out i c hc
      have y0 := blk_cell hbr x0
      have hs : (sb (M.opens (ns (l.take i)))).size ≤ 200 := by rw [sb_size, op_len]; simp; omega
      have hsn := opens_snoc l i c hc
      have HSN : Hid _ := hsn
      clear hsn hbr x0 hc
      generalize hS : sb (M.opens (ns (l.take i))) = S at *
      go_wp2_with (first | (go_at_call 7; refine (nmf_s c _ hc0 hc1).mono ?_; rintro e w3 ⟨rfl, hb3⟩; have HB3 : Hid _ := hb3; clear hb3; have hs2 : (sb (M.nmOf c)).size = 2 := sb_size _))
      go_roundg m
      case measure => omega
      case rel => exact ⟨i + 1, by rw [HSN.out, ← sb_append, ← sb_append [60], ← sb_append (M.nmOf c), hS]; simp only [ByteArray.append_assoc]; rfl, by simp, by omega, HBr.out.trans (HB3.out.mono hzr)⟩
    · have hil : i = l.length := by omega
      subst hil
      rw [List.take_length]
      clear hbr
      generalize hS : sb (M.opens (ns l)) = S at *
      have hSs : S.size = 4 * l.length := by rw [← hS, sb_size, op_len]
      have hSZ : (S.size : Int) = 4 * (l.length : Int) := by omega
      have hlI : ((l.length - 1 : Nat) : Int) = (l.length : Int) - 1 := by omega
      go_wp2_with fail
      go_loopg [7, 9, 10, 11] (l.length + 1) (fun m v7 v9 v10 v11 wr' => ∃ t : Nat, v7 = .string (sb (M.opens (ns l) ++ cl (l.set k o) t)) ∧ v9 = .int .i64 (whr l.length k t) ∧ v10 = .int .i64 ((t : Int) - 1) ∧ t + 1 = m ∧ t ≤ l.length ∧ Below w.heap.size w wr')
      case atStart =>
        refine ⟨l.length, ?_, ?_, rfl, by omega, by omega, HBr.out⟩
        · rw [← hS, cl, List.drop_eq_nil_of_le (by simp)]; simp [M.closes]
        · unfold whr; rw [if_neg (by omega)]
      case round =>
        obtain ⟨t, rfl, rfl, rfl, htm, htl, hbt⟩ := hrel
        have hzt := hbt.size
        have HBt : Hid _ := hbt
        have hdl : (sb (M.opens (ns l) ++ cl (l.set k o) t)).size = 4 * l.length + 5 * (l.length - t) := by rw [sb_size, List.length_append, op_len, cl_len, List.length_set]
        by_cases ht : t = 0
        · subst ht
          have hdoc : M.opens (ns l) ++ cl (l.set k o) 0 = M.misD (ns l) k (M.nmOf o) := by
            unfold M.misD cl ns
            rw [List.drop_zero, List.map_set]
          have hbd : Bd (M.opens (ns l) ++ cl (l.set k o) 0) := bd_append (opens_bdm l) (cl_bd _ _)
          rw [hdoc] at hbd hdl ⊢
          rw [sb_size] at hdl
          have hwl : ∀ x ∈ ns l, M.Nm x ∧ (x.length : Int) ≤ (limS 0 0 0 0).T := by
            intro x hx
            have h2 := nms_len l x hx
            simp at hx
            obtain ⟨c, _, rfl⟩ := hx
            exact ⟨M.nm_of c, by rw [h2]; decide⟩
          have hnl : ns l ≠ [] := by intro q; exact h0l (List.map_eq_nil_iff.1 q)
          have hll : (ns l).length = l.length := List.length_map _
          obtain ⟨c, hc⟩ : ∃ c, l[k]? = some c := ⟨_, List.getElem?_eq_getElem hk⟩
          obtain ⟨x0, hc0, hc1⟩ := HC.out k c hc
          have hnk : (ns l)[k]? = some (M.nmOf c) := by rw [List.getElem?_map, hc]; rfl
          have h64 : ((ns l).length : Int) ≤ (limS 0 0 0 0).D := by rw [hll]; show (l.length : Int) ≤ 64; omega
          have h4k : ((ns l).length : Int) ≤ (limS 0 0 0 0).N := by rw [hll]; show (l.length : Int) ≤ 4096; omega
          obtain ⟨cap, w3, hcv, hb3, hbi⟩ := conv_bi _ wr hbd (by unfold maxLen; omega)
          have hz3 := hb3.size
          have HB3 : Hid _ := And.intro (HBt.out.trans (hb3.mono hzt)) hbi
          have HT3 : Hid _ := (HT.out.lower HBt.out h0).lower hb3 (by omega)
          clear hb3 hbi hbt
          have hsame : c % 26 = o % 26 → (allB (M.misD (ns l) k (M.nmOf o)) (limS 0 0 0 0)).2.2 = 0 := fun q => by
            rw [← M.nmOf_inj.2 q]
            rw [← M.nmOf_inj.2 q] at hdl
            exact M.mis_same hnl hnk hwl h64 h4k (by omega)
          have hdiff : ¬ c % 26 = o % 26 → (allB (M.misD (ns l) k (M.nmOf o)) (limS 0 0 0 0)).2 = (whr l.length k 0, 2) := fun q => by
            rw [M.mis_diff (L := limS 0 0 0 0) hnk (M.nm_of o) (by show (2 : Int) ≤ 4096; omega) (fun e => q (M.nmOf_inj.1 e).symm) hwl h64 h4k (by omega)]
            unfold whr
            rw [if_pos (by omega), op_len]
            have e2 := cl_len l (k + 1)
            unfold cl ns at e2
            rw [List.map_drop] at e2
            rw [e2]
          clear hwl hnl hnk h64 h4k hll hdoc hc hdl HC hbd
          generalize M.misD (ns l) k (M.nmOf o) = dc at *
          generalize hS3 : sb dc = S3 at *
          go_wp2_with fail
          refine (all_b 0 0 0 0 0 0 HB3.out.2 HT3.out).mono ?_
          rintro e w4 ⟨B4, sv4, xs4, rfl, hB4, hr4, hc4, hb4⟩
          have HF : Hid _ := HB3.out.1.trans (hb4.mono (by omega))
          have y0 := blk_cell HF.out x0
          obtain ⟨a4, cap4, rfl, hn4, hm4, hg4⟩ := (ER.of hr4 hc4).f
          clear hr4 hc4 hb4 hg4
          generalize allB dc (limS 0 0 0 0) = X at *
          obtain ⟨es, p4, c4⟩ := X
          dsimp only at *
          have hkI : (k : Int) < (l.length : Int) := by omega
          have ht1 : c.tmod 26 = c % 26 := Int.tmod_eq_emod_of_nonneg hc0
          have ht2 : o.tmod 26 = o % 26 := Int.tmod_eq_emod_of_nonneg ho0
          by_cases hq : c % 26 = o % 26
          · have h4 := hsame hq
            clear hsame hdiff hq1 hq2 hq3 hq4 hlI hSs hSZ hS hS3 hcv htm him hi
            subst h4
            go_wp2_with fail
            go_ret
            exact ⟨rfl, HF.out⟩
          · have h4 := hdiff hq
            clear hsame hdiff hq1 hq2 hq3 hq4 hlI hSs hSZ hS hS3 hcv htm him hi
            simp only [Prod.mk.injEq] at h4
            obtain ⟨rfl, rfl⟩ := h4
            go_wp2_with fail
            go_ret
            exact ⟨rfl, HF.out⟩
        · obtain ⟨s, rfl⟩ : ∃ s, t = s + 1 := ⟨t - 1, by omega⟩
          obtain ⟨m, rfl⟩ : ∃ m, gk = m + 1 := ⟨gk - 1, by omega⟩
          have e1 : ((s + 1 : Nat) : Int) - 1 = (s : Int) := by omega
          rw [e1]
          obtain ⟨c, hc⟩ : ∃ c, l[s]? = some c := ⟨_, List.getElem?_eq_getElem (by omega)⟩
          obtain ⟨x0, hc0, hc1⟩ := HC.out s c hc
          have y0 := blk_cell hbt x0
          have hsI : (s : Int) < (l.length : Int) := by omega
          by_cases hsk : s = k
          · have hst := cl_step (l.set k o) s o (by rw [hsk, List.getElem?_set, if_pos rfl, if_pos (by omega)])
            subst hsk
            have HST : Hid _ := hst
            clear hst hbt x0 hc
            generalize hS2 : sb (M.opens (ns l) ++ cl (l.set s o) (s + 1)) = S2 at *
            go_wp2_with (first | (go_at_call_of 7 (Value.int IntKind.u8 c); refine (nmf_s c _ hc0 hc1).mono ?_; rintro e w3 ⟨rfl, hb3⟩; have HB3 : Hid _ := hb3; have hz3 := hb3.size; clear hb3; have hs2 : (sb (M.nmOf c)).size = 2 := sb_size _) | (go_at_call 7; refine (nmf_s o _ ho0 ho1).mono ?_; rintro e w4 ⟨rfl, hb4⟩; have HB4 : Hid _ := hb4; clear hb4; have hs3 : (sb (M.nmOf o)).size = 2 := sb_size _))
            go_roundg m
            case measure => omega
            case rel =>
              refine ⟨s, ?_, ?_, rfl, by omega, by omega, (HBt.out.trans (HB3.out.mono hzt)).trans (HB4.out.mono (by omega))⟩
              · rw [HST.out, ← List.append_assoc, ← sb_append (M.opens (ns l) ++ cl (l.set s o) (s + 1)), ← sb_append [60, 47], ← sb_append (M.nmOf o), hS2]; simp only [ByteArray.append_assoc]; rfl
              · unfold whr; rw [if_pos (by omega)]; first | rfl | (congr 1; omega) | (congr 1)
          · have hst := cl_step (l.set k o) s c (by rw [List.getElem?_set, if_neg (fun q => hsk q.symm)]; exact hc)
            have hskI : ¬ (s : Int) = (k : Int) := by omega
            have hwh : whr l.length k (s + 1) = whr l.length k s := by
              unfold whr
              by_cases q : s + 1 ≤ k
              · rw [if_pos q, if_pos (by omega)]
              · rw [if_neg q, if_neg (by omega)]
            have HST : Hid _ := hst
            clear hst hbt x0 hc
            generalize hS2 : sb (M.opens (ns l) ++ cl (l.set k o) (s + 1)) = S2 at *
            go_wp2_with (first | (go_at_call 7; refine (nmf_s c _ hc0 hc1).mono ?_; rintro e w3 ⟨rfl, hb3⟩; have HB3 : Hid _ := hb3; have hz3 := hb3.size; clear hb3; have hs2 : (sb (M.nmOf c)).size = 2 := sb_size _))
            go_roundg m
            case measure => omega
            case rel =>
              refine ⟨s, ?_, by first | rfl | rw [hwh], rfl, by omega, by omega, HBt.out.trans (HB3.out.mono hzt)⟩
              rw [HST.out, ← List.append_assoc, ← sb_append (M.opens (ns l) ++ cl (l.set k o) (s + 1)), ← sb_append [60, 47], ← sb_append (M.nmOf c), hS2]; simp only [ByteArray.append_assoc]; rfl
end Go.Proofs.YtjcgnbmpnaapdabDoor
