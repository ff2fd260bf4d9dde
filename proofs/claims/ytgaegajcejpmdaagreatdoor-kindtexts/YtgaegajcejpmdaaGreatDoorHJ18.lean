/- Joined: HChKnown, HChShare, HChSplit, HChRep, HChColMath, HChNameMath, HChRefNames, HChRefWords. -/
import Derived.Test.YtgaegajcejpmdaaGreatDoorHJ17
import Derived.Lib.SlBytesConst
import Derived.RegionTactic
namespace Go.Proofs.YtgaegajcejpmdaaGreatDoor.Ch
open Go.RowKit
set_option linter.unusedVariables false

set_option maxHeartbeats 400000 in
theorem space_col (s : ByteArray) (w : World) (hs : s.size ≤ 100000) :
    Calls Tryz.prog 38 #[.string s, .int .i64 3] w fun e w' => e = .returned (.string (sb (col (bl s) [] false))) ∧ Below w.heap.size w w' := by
  go_enter Tryz.func38, Tryz.ntmps38
  go_wp2_with (go_at_call 64; refine (collapse_any _ _ hs).mono ?_; rintro e w' ⟨rfl, hb⟩)
  go_ret
  exact ⟨rfl, ‹_›⟩

end Go.Proofs.YtgaegajcejpmdaaGreatDoor.Ch
namespace Go.Proofs.YtgaegajcejpmdaaGreatDoor.Ch
open Go.RowKit
set_option linter.unusedVariables false

theorem Bts.below {w w' : World} {a : Option Addr} {l : List Int} (h : Bts w a l) (hb : Below w.heap.size w w') : Bts w' a l := by
  refine ⟨h.1, ?_⟩
  rcases h.2 with h0 | ⟨b, o, rfl, hc⟩
  · exact .inl h0
  · refine .inr ⟨b, o, rfl, fun i hi => ?_⟩
    have := hc i hi
    exact (hb.cell (World.block_lt_of_cell? w _ this)).trans this
theorem bts_drewN {w : World} {a : Option Addr} {l : List Int} (h : Bts w a l) (n : Nat) : Bts (w.drewN n) a l := by
  refine ⟨h.1, ?_⟩
  rcases h.2 with h0 | ⟨b, o, rfl, hc⟩
  · exact .inl h0
  · exact .inr ⟨b, o, rfl, fun i hi => hc i hi⟩
/-- What stays as it was while the statement goes on: the row of bytes, and all that lay there at its begin. -/
def Kept (w : World) (a : Option Addr) (l : List Int) (W : World) : Prop := Bts W a l ∧ Below w.heap.size w W
theorem Kept.drew {w W : World} {a : Option Addr} {l : List Int} (h : Kept w a l W) : Kept w a l W.drew := ⟨bts_drewN h.1 1, h.2.drew⟩
theorem Kept.step {w W W' : World} {a : Option Addr} {l : List Int} (h : Kept w a l W) (hb : Below W.heap.size W W') : Kept w a l W' := ⟨Bts.below h.1 hb, h.2.trans (hb.mono h.2.size)⟩
end Go.Proofs.YtgaegajcejpmdaaGreatDoor.Ch
namespace Go.Proofs.YtgaegajcejpmdaaGreatDoor.Ch
open Go.RowKit
set_option linter.unusedVariables false

def cs : List Int → Nat
  | [] => 0
  | b :: l => if b = 32 then cs l + 1 else cs l
theorem cs_le (l : List Int) : cs l ≤ l.length := by
  induction l with
  | nil => simp [cs]
  | cons b l ih => simp only [cs, List.length_cons]; split <;> omega
def spl : List Int → List (List Int)
  | [] => [[]]
  | c :: l => if c = 32 then [] :: spl l else (c :: (spl l).headD []) :: (spl l).tail
theorem spl_len (l : List Int) : (spl l).length = cs l + 1 := by
  induction l with
  | nil => rfl
  | cons c l ih =>
    simp only [spl, cs]
    split
    · simp [ih]
    · simp [ih]
/-- A row of texts as it lies in memory. -/
def Sts (w : World) (a : Option Addr) (ps : List ByteArray) : Prop :=
  ps = [] ∨ ∃ b, a = some ⟨b, 0, none⟩ ∧ ∀ i, i < ps.length → w.cell? ⟨b, i, none⟩ = some (.string (ps.getD i ⟨#[]⟩))
theorem Sts.below {w w' : World} {a : Option Addr} {ps : List ByteArray} (h : Sts w a ps) (hb : Below w.heap.size w w') : Sts w' a ps := by
  rcases h with h0 | ⟨b, rfl, hc⟩
  · exact .inl h0
  · refine .inr ⟨b, rfl, fun i hi => ?_⟩
    have := hc i hi
    exact (hb.cell (World.block_lt_of_cell? w _ this)).trans this
def words (l : List Int) : List ByteArray := (spl l).map sb
theorem info9 : (Tryz.prog.info? 9).map (fun i => (i.zero, i.size, i.bytes)) = some (some (.string ⟨#[]⟩), 1, 16) := by kernel_rfl
theorem addr_ne (G : Nat) {k j : Nat} (h : ¬ k = j) : (⟨G, k, none⟩ : Addr) ≠ ⟨G, j, none⟩ := by
  intro g
  injection g with _ g2 _
  exact h g2
theorem getD_sb (l : List (List Int)) (j : Nat) (h : j < l.length) : (l.map sb).getD j ⟨#[]⟩ = sb (l.getD j []) := by
  simp [List.getD_eq_getElem?_getD, h]
def wordsOf (l : List Int) : List ByteArray := if (col l [] false).length = 0 then [] else words (col l [] false)
theorem col_bd : ∀ (l out : List Int) (g : Bool), (∀ i, 0 ≤ l.getD i 0 ∧ l.getD i 0 < 256) → (∀ i, 0 ≤ out.getD i 0 ∧ out.getD i 0 < 256) → ∀ i, 0 ≤ (col l out g).getD i 0 ∧ (col l out g).getD i 0 < 256 := by
  intro l
  induction l with
  | nil => intro out g _ h; exact h
  | cons c l ih =>
    intro out g hl ho
    have hc : 0 ≤ c ∧ c < 256 := by simpa using hl 0
    have hl' : ∀ i, 0 ≤ l.getD i 0 ∧ l.getD i 0 < 256 := fun i => by simpa using hl (i + 1)
    simp only [col]
    split
    · exact ih out true hl' ho
    · split
      · refine ih _ false hl' ?_
        have := getD_app (getD_app ho 32 (by omega) (by omega)) c hc.1 hc.2
        simpa using this
      · exact ih _ false hl' (getD_app ho c hc.1 hc.2)
theorem col_len : ∀ (l out : List Int) (g : Bool), (col l out g).length ≤ out.length + l.length + g.toNat := by
  intro l
  induction l with
  | nil => intro out g; simp [col]
  | cons c l ih =>
    intro out g
    simp only [col]
    split
    · have := ih out true; simp at this ⊢; omega
    · split
      · rename_i h
        have := ih (out ++ [32, c]) false; simp [h.1] at this ⊢; omega
      · have := ih (out ++ [c]) false; simp at this ⊢; omega
theorem sb_size (l : List Int) : (sb l).size = l.length := by simp [sb, ByteArray.size]
end Go.Proofs.YtgaegajcejpmdaaGreatDoor.Ch
namespace Go.Proofs.YtgaegajcejpmdaaGreatDoor.Ch
open Go.RowKit
set_option linter.unusedVariables false

def rp (c : Int) : Int := if isWhite c = true then 32 else c
theorem rp_getD (l : List Int) (j : Nat) (h : j < l.length) : (l.map rp).getD j 0 = rp (l.getD j 0) := by
  simp [List.getD_eq_getElem?_getD, h]
theorem conv_free (s : ByteArray) (w : World) (hs : s.size ≤ maxLen) : ∃ cap w1, s.size ≤ cap ∧ cap ≤ maxLen ∧
    (convert 9 32 (.string s)).run Tryz.prog w = .ok (.slice (some ⟨w.heap.size, 0, none⟩) s.size cap) w1 ∧ Below w.heap.size w w1 ∧
    (∀ j, j < s.size → w1.cell? ⟨w.heap.size, j, none⟩ = some (.int .u8 ((bl s).getD j 0))) ∧ ∀ j, j < s.size → w1.frozen? ⟨w.heap.size, j, none⟩ = false := by
  refine ⟨grownCap w s.size 0 5, _, grownCap_ge _ _ _ _, grownCap_le_maxLen _ _ _ _ hs, run_bytes_of_string w 9 32 5 s Tryz.underlying9 Tryz.underlying32 Tryz.underlying5, ?_, ?_, ?_⟩
  · exact (Below.refl _ _).drew.alloc (Nat.le_refl _) _
  · intro i hi
    have h := World.cell?_alloc_mark w.drew (bytesRow s (grownCap w s.size 0 5)) 5 ((bytesRow s (grownCap w s.size 0 5)).size, (bytesRow s (grownCap w s.size 0 5)).size + 1) i
    refine h.trans ?_
    rw [bytesRow_at s _ i hi]
    simp [bl, List.getD_eq_getElem?_getD, hi]
  · intro i hi
    have hge := grownCap_ge w s.size 0 5
    have hsz : (bytesRow s (grownCap w s.size 0 5)).size = grownCap w s.size 0 5 := by
      unfold bytesRow
      rw [Array.size_append, Array.size_map, Array.size_replicate]
      have : s.data.size = s.size := rfl
      omega
    unfold World.frozen?
    have hh : (w.drew.alloc (.cells (bytesRow s (grownCap w s.size 0 5)) 5 ((bytesRow s (grownCap w s.size 0 5)).size, (bytesRow s (grownCap w s.size 0 5)).size + 1))).heap[w.heap.size]? = some (.cells (bytesRow s (grownCap w s.size 0 5)) 5 ((bytesRow s (grownCap w s.size 0 5)).size, (bytesRow s (grownCap w s.size 0 5)).size + 1)) := by
      show (w.heap.push _)[w.heap.size]? = _
      simp
    rw [hh]
    simp
    omega

def RepRel (w : World) (n : Nat) (l : List Int) (i : Value) (wr : World) : Prop :=
  ∃ k : Nat, k ≤ n ∧ i = .int .i64 k ∧ Below w.heap.size w wr ∧ (∀ j, j < n → wr.frozen? ⟨w.heap.size, j, none⟩ = false) ∧
    ∀ j, j < n → wr.cell? ⟨w.heap.size, j, none⟩ = some (.int .u8 (if j < k then rp (l.getD j 0) else l.getD j 0))

set_option maxHeartbeats 400000 in
theorem replace_any (s : ByteArray) (w : World) (hs : s.size ≤ 100000) :
    Calls Tryz.prog 63 #[.string s] w fun e w' => e = .returned (.string (sb ((bl s).map rp))) ∧ Below w.heap.size w w' := by
  obtain ⟨cap, w1, hc, hcm, hrun, hbel, hcell, hfr⟩ := conv_free s w (by unfold maxLen; omega)
  have hstart : RepRel w s.size (bl s) (.int .i64 0) w1 := ⟨0, Nat.zero_le _, rfl, hbel, hfr, fun j hj => by rw [hcell j hj]; simp⟩
  have HS : Hid _ := hstart
  have HBd : Hid _ := bl_bd s
  have HL : Hid _ := bl_len s
  clear hstart hbel hcell hfr hc hcm
  generalize bl s = l at *
  go_enter Tryz.func63, Tryz.ntmps63
  go_wp2
  go_loopw [10] (fun i wr => RepRel w s.size l i wr) (fun i _ => s.size - (intOf i).toNat)
  case atStart => exact HS.out
  case round =>
    obtain ⟨k, hk, rfl, hbel, hfr, hcell⟩ := hrel
    have HB : Hid _ := hbel
    have HF : Hid _ := hfr
    have HC : Hid _ := hcell
    clear hbel HS hrun
    by_cases hlt : k < s.size
    · have hfk := hfr k hlt
      have hck := hcell k hlt
      rw [if_neg (Nat.lt_irrefl k)] at hck
      have hb1 := (HBd.out k).1
      have hb2 := (HBd.out k).2
      clear hfr hcell
      by_cases hw : isWhite (l.getD k 0) = true
      · have hr : Hid (rp (l.getD k 0) = 32) := by show _ = _; unfold rp; rw [if_pos hw]
        generalize hx : l.getD k 0 = c at *
        have HX : Hid _ := hx
        clear hx
        go_wp2_with (go_at_call 116; refine (white_any _ _).mono ?_; rintro e w' ⟨rfl, rfl⟩)
        go_roundw
        case rel =>
          refine ⟨k + 1, by omega, by go_num, HB.out.setCell (Nat.le_refl _) _, fun j hj => by simpa using HF.out j hj, fun j hj => ?_⟩
          by_cases e : j = k
          · subst e
            rw [World.cell?_setCell_same' _ _ _ (by rw [hck]; rfl), if_pos (by omega), HX.out, hr.out]
          · rw [World.cell?_setCell_other _ _ _ _ (addr_ne _ (fun h => e h.symm)), HC.out j hj]
            by_cases g : j < k
            · rw [if_pos g, if_pos (by omega)]
            · rw [if_neg g, if_neg (by omega)]
        case measure => simp [intOf]; omega
      · have hw' : isWhite (l.getD k 0) = false := by simpa using hw
        have hr : Hid (rp (l.getD k 0) = l.getD k 0) := by show _ = _; unfold rp; rw [if_neg hw]
        clear hw
        generalize hx : l.getD k 0 = c at *
        have HX : Hid _ := hx
        clear hx
        go_wp2_with (go_at_call 116; refine (white_any _ _).mono ?_; rintro e w' ⟨rfl, rfl⟩)
        go_roundw
        case rel =>
          refine ⟨k + 1, by omega, by go_num, HB.out, HF.out, fun j hj => ?_⟩
          rw [HC.out j hj]
          by_cases g : j < k
          · rw [if_pos g, if_pos (by omega)]
          · rw [if_neg g]
            by_cases e : j = k
            · subst e; rw [if_pos (by omega), HX.out, hr.out]
            · rw [if_neg (by omega)]
        case measure => simp [intOf]; omega
    · have hcv := conv_string w.heap.size 0 cap (l.map rp) wr (fun j hj => by
        rw [List.length_map] at hj
        rw [Nat.zero_add, HC.out j (by rw [← HL.out]; exact hj), if_pos (by rw [HL.out] at hj; omega), rp_getD l j hj])
      rw [List.length_map, HL.out] at hcv
      clear hfr hcell
      go_wp2
      go_ret
      exact ⟨rfl, HB.out⟩

def spc (s : ByteArray) (how : Int) : ByteArray := if how = 2 then sb ((bl s).map rp) else if how = 3 then sb (col (bl s) [] false) else s
set_option maxHeartbeats 400000 in
theorem space_any (s : ByteArray) (how : Int) (w : World) (hs : s.size ≤ 100000) :
    Calls Tryz.prog 38 #[.string s, .int .i64 how] w fun e w' => e = .returned (.string (spc s how)) ∧ Below w.heap.size w w' := by
  by_cases h2 : how = 2
  · subst h2
    go_enter Tryz.func38, Tryz.ntmps38
    go_wp2_with (go_at_call 63; refine (replace_any _ _ hs).mono ?_; rintro e w' ⟨rfl, hb⟩)
    go_ret
    exact ⟨rfl, ‹_›⟩
  · by_cases h3 : how = 3
    · subst h3
      exact space_col s w hs
    · have e2 : (how == 2) = false := beq_eq_false_iff_ne.2 h2
      have e3 : (how == 3) = false := beq_eq_false_iff_ne.2 h3
      have hq : Hid (spc s how = s) := by show _ = _; unfold spc; rw [if_neg h2, if_neg h3]
      clear h2 h3
      go_enter Tryz.func38, Tryz.ntmps38
      go_wp2
      go_ret
      refine ⟨?_, Below.refl _ _⟩
      rw [hq.out]; rfl

end Go.Proofs.YtgaegajcejpmdaaGreatDoor.Ch
namespace Go.Proofs.YtgaegajcejpmdaaGreatDoor.Ch
set_option linter.unusedVariables false

def step (st : List Int × Bool) (c : Int) : List Int × Bool :=
  if isWhite c = true then (st.1, true) else if st.2 = true ∧ 0 < st.1.length then (st.1 ++ [32, c], false) else (st.1 ++ [c], false)
theorem words_le (l : List Int) : (wordsOf l).length ≤ l.length + 1 := by
  unfold wordsOf
  split
  · simp
  · unfold words
    rw [List.length_map, spl_len]
    have := cs_le (col l [] false)
    have := col_len l [] false
    simp at this
    omega
end Go.Proofs.YtgaegajcejpmdaaGreatDoor.Ch
namespace Go.Proofs.YtgaegajcejpmdaaGreatDoor.Ch
set_option linter.unusedVariables false

def wd : List Int → List Int → List (List Int)
  | [], cur => if cur.length = 0 then [] else [cur]
  | c :: l, cur => if isWhite c = true then (if cur.length = 0 then wd l [] else cur :: wd l []) else wd l (cur ++ [c])
def join : List (List Int) → List Int
  | [] => []
  | [w] => w
  | w :: v :: ws => w ++ 32 :: join (v :: ws)
theorem join_snoc (D : List (List Int)) (h : D ≠ []) (w : List Int) : join (D ++ [w]) = join D ++ 32 :: w := by
  induction D with
  | nil => exact absurd rfl h
  | cons a D ih =>
    cases D with
    | nil => simp [join]
    | cons b D =>
      have := ih (by simp)
      simp only [List.cons_append, join] at this ⊢
      rw [this]
      simp
theorem join_more (D : List (List Int)) (cur : List Int) (c : Int) : join (D ++ [cur]) ++ [c] = join (D ++ [cur ++ [c]]) := by
  by_cases h : D = []
  · subst h; rfl
  · rw [join_snoc D h, join_snoc D h]; simp
theorem join_pos (D : List (List Int)) (h : ∀ w ∈ D, 0 < w.length) (hd : D ≠ []) : 0 < (join D).length := by
  cases D with
  | nil => exact absurd rfl hd
  | cons a D =>
    have ha := h a (by simp)
    cases D with
    | nil => exact ha
    | cons b D => simp only [join, List.length_append]; omega
theorem col_wd (l : List Int) : (∀ D, (∀ w ∈ D, 0 < w.length) → col l (join D) true = join (D ++ wd l [])) ∧
    (∀ D cur, (∀ w ∈ D, 0 < w.length) → 0 < cur.length → col l (join (D ++ [cur])) false = join (D ++ wd l cur)) := by
  induction l with
  | nil =>
    refine ⟨fun D hD => by simp [col, wd], fun D cur hD hc => ?_⟩
    simp only [col, wd]
    rw [if_neg (by omega)]
  | cons c l ih =>
    obtain ⟨ihA, ihB⟩ := ih
    refine ⟨fun D hD => ?_, fun D cur hD hc => ?_⟩
    · simp only [col, wd]
      by_cases hw : isWhite c = true
      · rw [if_pos hw, if_pos hw, if_pos (show ([] : List Int).length = 0 from rfl)]
        exact ihA D hD
      · rw [if_neg hw, if_neg hw]
        by_cases hd : D = []
        · subst hd
          rw [if_neg (by simp [join])]
          exact ihB [] [c] (by simp) (by simp)
        · rw [if_pos ⟨trivial, join_pos D hD hd⟩]
          have := ihB D [c] hD (by simp)
          rw [join_snoc D hd] at this
          exact this
    · simp only [col, wd]
      by_cases hw : isWhite c = true
      · rw [if_pos hw, if_pos hw, if_neg (by omega)]
        have := ihA (D ++ [cur]) (by intro w hw; rcases List.mem_append.1 hw with h | h; exact hD w h; simp at h; subst h; exact hc)
        rw [this]; simp
      · rw [if_neg hw, if_neg hw, if_neg (by simp)]
        rw [join_more]
        exact ihB D (cur ++ [c]) hD (by simp)
theorem col_join (l : List Int) : col l [] false = join (wd l []) := by
  have h := (col_wd l).1 [] (by simp)
  have e : ∀ l : List Int, col l [] true = col l [] false := by
    intro l
    cases l with
    | nil => rfl
    | cons c l => simp [col]
  rw [← e]
  simpa [join] using h
theorem wd_ok (l : List Int) : ∀ cur, (∀ x ∈ cur, ¬ x = 32) → ∀ w ∈ wd l cur, 0 < w.length ∧ ∀ x ∈ w, ¬ x = 32 := by
  induction l with
  | nil =>
    intro cur hc w hw
    simp only [wd] at hw
    split at hw
    · simp at hw
    · simp at hw; subst hw; exact ⟨by omega, hc⟩
  | cons c l ih =>
    intro cur hc w hw
    simp only [wd] at hw
    split at hw
    · split at hw
      · exact ih [] (by simp) w hw
      · rcases List.mem_cons.1 hw with rfl | h
        · exact ⟨by omega, hc⟩
        · exact ih [] (by simp) w h
    · rename_i hwh
      refine ih (cur ++ [c]) ?_ w hw
      intro x hx
      rcases List.mem_append.1 hx with h | h
      · exact hc x h
      · simp at h; subst h
        intro h32; subst h32
        exact hwh (by decide)
theorem spl_word (w : List Int) (h : ∀ x ∈ w, ¬ x = 32) : spl w = [w] := by
  induction w with
  | nil => rfl
  | cons a w ih =>
    have ha := h a (by simp)
    have := ih (fun x hx => h x (by simp [hx]))
    simp only [spl, ha, if_false, this]
    rfl
theorem spl_app (w r : List Int) (h : ∀ x ∈ w, ¬ x = 32) : spl (w ++ 32 :: r) = w :: spl r := by
  induction w with
  | nil => simp [spl]
  | cons a w ih =>
    have ha := h a (by simp)
    have := ih (fun x hx => h x (by simp [hx]))
    simp only [List.cons_append, spl, ha, if_false, this]
    rfl
theorem spl_join (ws : List (List Int)) (hn : ws ≠ []) (h : ∀ w ∈ ws, ∀ x ∈ w, ¬ x = 32) : spl (join ws) = ws := by
  induction ws with
  | nil => exact absurd rfl hn
  | cons a ws ih =>
    cases ws with
    | nil => exact spl_word a (h a (by simp))
    | cons b ws =>
      simp only [join]
      rw [spl_app a _ (h a (by simp)), ih (by simp) (fun w hw => h w (by simp [hw]))]
theorem wordsOf_wd (l : List Int) : wordsOf l = (wd l []).map sb := by
  have hok := wd_ok l [] (by simp)
  unfold wordsOf words
  rw [col_join]
  by_cases h : wd l [] = []
  · rw [h]; simp [join]
  · have hp := join_pos (wd l []) (fun w hw => (hok w hw).1) h
    rw [if_neg (by omega), spl_join _ h (fun w hw => (hok w hw).2)]

def lets : Nat → List Int → Option (List Int)
  | 0, _ => some []
  | n + 1, l => if l.length = 0 then some [] else if (dec l).2 = 0 ∨ isChar (dec l).1 = false then none else (lets n (l.drop (dec l).2.toNat)).map ((dec l).1 :: ·)
theorem lets_end (n : Nat) (l : List Int) (h : l.length = 0) : lets n l = some [] := by
  cases n <;> simp [lets, h]
theorem lets_bad (n : Nat) (l : List Int) (h0 : ¬ l.length = 0) (h : (dec l).2 = 0 ∨ isChar (dec l).1 = false) : lets (n + 1) l = none := by
  simp only [lets]; rw [if_neg h0, if_pos h]
theorem lets_step (n : Nat) (l : List Int) (h0 : ¬ l.length = 0) (h : ¬ ((dec l).2 = 0 ∨ isChar (dec l).1 = false)) : lets (n + 1) l = (lets n (l.drop (dec l).2.toNat)).map ((dec l).1 :: ·) := by
  simp only [lets]; rw [if_neg h0, if_neg h]
theorem part_char (r : Int) (h : isPart r = true) : isChar r = true := by
  unfold isPart isStart at h
  unfold isChar at *
  simp only [decide_eq_true_eq] at *
  omega
theorem tok_lets (n : Nat) : ∀ l : List Int, tok n l = (match lets n l with | none => false | some ls => ls.all isPart) := by
  induction n with
  | zero => intro l; rfl
  | succ n ih =>
    intro l
    by_cases h0 : l.length = 0
    · rw [tok_end _ l h0, lets_end _ l h0]; rfl
    · by_cases hz : (dec l).2 = 0
      · rw [tok_bad n l h0 (.inl hz), lets_bad n l h0 (.inl hz)]
      · by_cases hp : isPart (dec l).1 = true
        · have hch := part_char _ hp
          rw [tok_step n l h0 (by simp [hz, hp]), lets_step n l h0 (by simp [hz, hch]), ih]
          cases lets n (l.drop (dec l).2.toNat) with
          | none => rfl
          | some ls => simp [hp]
        · have hp' : isPart (dec l).1 = false := by simpa using hp
          rw [tok_bad n l h0 (.inr hp')]
          by_cases hch : isChar (dec l).1 = true
          · rw [lets_step n l h0 (by simp [hz, hch])]
            cases lets n (l.drop (dec l).2.toNat) with
            | none => rfl
            | some ls => simp [hp']
          · rw [lets_bad n l h0 (.inr (by simpa using hch))]
theorem lets_head (n : Nat) (l ls : List Int) (hn : l.length ≤ n) (h : lets n l = some ls) : (ls.length = 0 ↔ l.length = 0) ∧ (0 < ls.length → ls.getD 0 0 = (dec l).1) := by
  by_cases h0 : l.length = 0
  · rw [lets_end n l h0] at h
    simp at h; subst h
    exact ⟨by simp [h0], by simp⟩
  · obtain ⟨n, rfl⟩ : ∃ m, n = m + 1 := ⟨n - 1, by omega⟩
    by_cases hb : (dec l).2 = 0 ∨ isChar (dec l).1 = false
    · rw [lets_bad n l h0 hb] at h; cases h
    · rw [lets_step n l h0 hb] at h
      cases hx : lets n (l.drop (dec l).2.toNat) with
      | none => rw [hx] at h; cases h
      | some t =>
        rw [hx] at h
        simp at h; subst h
        exact ⟨by simp [h0], by simp⟩
theorem lets_le (n : Nat) : ∀ l ls : List Int, lets n l = some ls → ls.length ≤ n := by
  induction n with
  | zero => intro l ls h; simp [lets] at h; subst h; simp
  | succ n ih =>
    intro l ls h
    by_cases h0 : l.length = 0
    · rw [lets_end _ l h0] at h; simp at h; subst h; simp
    · by_cases hb : (dec l).2 = 0 ∨ isChar (dec l).1 = false
      · rw [lets_bad n l h0 hb] at h; cases h
      · rw [lets_step n l h0 hb] at h
        cases hx : lets n (l.drop (dec l).2.toNat) with
        | none => rw [hx] at h; cases h
        | some t =>
          rw [hx] at h
          simp at h; subst h
          have := ih _ _ hx
          simp; omega
theorem tokB_none {l : List Int} (h : lets l.length l = none) : tokB l = false := by
  unfold tokB; rw [tok_lets, h]; rfl
theorem tokB_some {l ls : List Int} (h : lets l.length l = some ls) : tokB l = (ls.all isPart && decide (0 < ls.length)) := by
  have := (lets_head l.length l ls (Nat.le_refl _) h).1
  unfold tokB; rw [tok_lets, h]
  show (ls.all isPart && _) = _
  congr 1
  rw [Bool.eq_iff_iff]; simp; omega
end Go.Proofs.YtgaegajcejpmdaaGreatDoor.Ch
namespace Go.Proofs.YtgaegajcejpmdaaGreatDoor.Ch
open Go.RowKit
set_option linter.unusedVariables false

def Ins (w : World) (a : Option Addr) (ls : List Int) : Prop :=
  ls = [] ∨ ∃ b, a = some ⟨b, 0, none⟩ ∧ ∀ i, i < ls.length → w.cell? ⟨b, i, none⟩ = some (.int .i64 (ls.getD i 0))
theorem Ins.below {w w' : World} {a : Option Addr} {ps : List Int} (h : Ins w a ps) (hb : Below w.heap.size w w') : Ins w' a ps := by
  rcases h with h0 | ⟨b, rfl, hc⟩
  · exact .inl h0
  · refine .inr ⟨b, rfl, fun i hi => ?_⟩
    have := hc i hi
    exact (hb.cell (World.block_lt_of_cell? w _ this)).trans this
theorem info3 : (Tryz.prog.info? 3).map (fun i => (i.zero, i.size, i.bytes)) = some (some (.int .i64 0), 1, 8) := by kernel_rfl
theorem own_ints {w : World} {base n : Nat} {v : Value} {l : List Int} (h : w.ownsRow base 3 1 v n (l.map (Value.int .i64))) : ∃ a cap, v = .slice a l.length cap ∧ cap ≤ maxLen ∧ Ins w a l := by
  have hn : n = l.length := by have := h.1; simp at this; omega
  subst hn
  rcases h.2 with ⟨rfl, h0⟩ | ⟨g, cap, cur, rfl, hbg, hg, hnc, hcm, hcs, htake⟩
  · exact ⟨none, 0, by rw [h0], Nat.zero_le _, .inl (List.eq_nil_of_length_eq_zero h0)⟩
  · refine ⟨_, cap, rfl, hcm, .inr ⟨g, rfl, fun i hi => ?_⟩⟩
    have := h.cells (g := g) rfl i (.int .i64 (l.getD i 0)) (by simp [List.getD_eq_getElem?_getD, hi])
    rw [addr_add, Nat.zero_add] at this
    exact this

def LPost (w : World) (o : Option (List Int)) (e : Ending) (w' : World) : Prop :=
  Below w.heap.size w w' ∧ ((o = none ∧ e = .returned (.tuple #[.slice none 0 0, .bool false])) ∨ ∃ ls a cap, o = some ls ∧ e = .returned (.tuple #[.slice a ls.length cap, .bool true]) ∧ Ins w' a ls)
def LRel (w1 : World) (l : List Int) (v4 i : Value) (wr : World) : Prop :=
  ∃ (k n : Nat) (done : List Int), k ≤ l.length ∧ l.length - k ≤ n ∧ i = .int .i64 k ∧ wr.ownsRow w1.heap.size 3 1 v4 done.length (done.map (Value.int .i64)) ∧ Below w1.heap.size w1 wr ∧
    done.length ≤ k ∧ lets l.length l = (lets n (l.drop k)).map (done ++ ·)

set_option maxHeartbeats 1000000 in
theorem letters_any (s : ByteArray) (w : World) (hs : s.size ≤ 100000) :
    Calls Tryz.prog 117 #[.string s] w (LPost w (lets (bl s).length (bl s))) := by
  obtain ⟨cap, w1, hc, hcm, hrun, hbel, hsz, hb⟩ := conv_bytes s w (by unfold maxLen; omega)
  obtain ⟨i0, hi, hz0, hz1, hz2⟩ := info_parts info3
  have hcm' := hcm
  unfold maxLen at hcm'
  have hsm := hs
  rw [← bl_len] at hrun hc hsm
  have HBy : Hid _ := bl_bd s
  generalize bl s = l at *
  have HBel : Hid _ := hbel
  have HBt : Hid _ := hb
  clear hbel hb
  go_enter Tryz.func117, Tryz.ntmps117
  go_wp2
  go_loopw [4, 6] (fun v4 i wr => LRel w1 l v4 i wr) (fun _ i _ => l.length - (intOf i).toNat)
  case atStart => exact ⟨0, l.length, [], Nat.zero_le _, Nat.le_refl _, rfl, World.ownsRow_nil _ _ _ _, Below.refl _ _, Nat.zero_le _, by simp⟩
  case round =>
    obtain ⟨k, n, done, hk, hn, rfl, hown, hB, hdl, hall⟩ := hrel
    have HA : Hid _ := hall
    have HB : Hid _ := hB
    have HBtr : Hid _ := Bts.below HBt.out hB
    clear hall hB hrun
    by_cases hlt : k < l.length
    · have hcp : ¬ cap = k := by omega
      have hd0 : ¬ (l.drop k).length = 0 := by simp; omega
      have hdb := dec_bd (l.drop k)
      obtain ⟨n, rfl⟩ : ∃ m, n = m + 1 := ⟨n - 1, by omega⟩
      by_cases hz : (dec (l.drop k)).2 = 0
      · have hs' : Hid _ := lets_bad n _ hd0 (.inl hz)
        go_wp2_with (go_at_call 166; refine (rdecode_at0 _ k l _ cap _ rfl hc hcm HBtr.out).mono ?_; rintro e w' ⟨rfl, rfl⟩)
        go_ret2
        refine ⟨HBel.out.trans (HB.out.mono HBel.out.size), .inl ⟨?_, rfl⟩⟩
        rw [HA.out, hs'.out]; rfl
      · have hzb : ((dec (l.drop k)).2 == 0) = false := beq_eq_false_iff_ne.2 hz
        have hdl2 : (dec (l.drop k)).2 ≤ l.length - k := by
          rcases hdb with h | h
          · exact absurd h hz
          · have := h.2.2; simp at this; omega
        have hd1 : 1 ≤ (dec (l.drop k)).2 := by omega
        have hd4 : (dec (l.drop k)).2 ≤ 4 := by omega
        clear hdb
        by_cases hch : isChar (dec (l.drop k)).1 = false
        · have hs' : Hid _ := lets_bad n _ hd0 (.inr hch)
          go_wp2_with (first | (go_at_call 166; refine (rdecode_at0 _ k l _ cap _ rfl hc hcm HBtr.out).mono ?_; rintro e w' ⟨rfl, rfl⟩) | (go_at_call 167; refine (rchar_any _ _).mono ?_; rintro e w' ⟨rfl, rfl⟩))
          go_ret2
          refine ⟨HBel.out.trans (HB.out.mono HBel.out.size), .inl ⟨?_, rfl⟩⟩
          rw [HA.out, hs'.out]; rfl
        · have hs' : Hid _ := lets_step n _ hd0 (fun h => h.elim hz hch)
          have hch' : isChar (dec (l.drop k)).1 = true := by simpa using hch
          clear hch hz
          go_wp2_with (first | (go_at_call 166; refine (rdecode_at0 _ k l _ cap _ rfl hc hcm HBtr.out).mono ?_; rintro e wq ⟨rfl, rfl⟩) | (go_at_call 167; refine (rchar_any _ _).mono ?_; rintro e wq ⟨rfl, rfl⟩) | (at_builtin; refine wpList_append_own _ rfl (.tmp 29) (.tmp 31) 60 rfl w1.heap.size 3 i0 (.int .i64 0) 1 8 Tryz.underlying60 hi hz0 hz1 hz2 rfl (by decide) _ _ _ rfl (hown.alloc _) ⟨wq.heap.size, 0, none⟩ 1 1 [.int .i64 (dec (l.drop k)).1] rfl rfl (cell_one_new _ _ _) (by intro u hu; simp at hu; subst hu; rfl) (by unfold maxLen; omega) (by omega) (by have := HB.out.size; simp; omega) ?_; intro v4n w3 hown3 hgr3 _))
          go_roundw
          case rel =>
            refine ⟨k + (dec (l.drop k)).2.toNat, n, done ++ [(dec (l.drop k)).1], by omega, by omega, by rw [Int.natCast_add, Int.toNat_of_nonneg (by omega)], by simpa using hown3, (HB.out.alloc HB.out.size _).grown hgr3 (by have := HB.out.size; simp; omega) (fun j hj => (hown.lt j hj).1), by simp; omega, ?_⟩
            rw [HA.out, hs'.out, List.drop_drop]
            cases lets n (l.drop (k + (dec (l.drop k)).2.toNat)) with
            | none => rfl
            | some t => simp
          case measure => simp [intOf]; omega
    · have hs' : Hid _ := lets_end n (l.drop k) (by simp; omega)
      obtain ⟨a, capo, rfl, hco, hins⟩ := own_ints hown
      clear hown
      go_wp2
      go_ret2
      refine ⟨HBel.out.trans (HB.out.mono HBel.out.size), .inr ⟨done, a, capo, ?_, rfl, hins⟩⟩
      rw [HA.out, hs'.out]; simp

theorem all_take (ls : List Int) (k : Nat) (h : ∀ j, j < k → isPart (ls.getD j 0) = true) (hk : ls.length ≤ k) : ls.all isPart = true := by
  rw [List.all_eq_true]
  intro x hx
  obtain ⟨j, hj, rfl⟩ := List.mem_iff_getElem.1 hx
  have := h j (by omega)
  simpa [List.getD_eq_getElem?_getD, hj] using this
theorem all_not (ls : List Int) (k : Nat) (hk : k < ls.length) (h : isPart (ls.getD k 0) = false) : ls.all isPart = false := by
  rw [List.all_eq_false]
  exact ⟨ls[k], List.getElem_mem hk, by simpa [List.getD_eq_getElem?_getD, hk] using h⟩

set_option maxHeartbeats 1000000 in
theorem rtok_any (s : ByteArray) (w : World) (hs : s.size ≤ 100000) :
    Calls Tryz.prog 67 #[.string s] w fun e w' => e = .returned (.bool (tokB (bl s))) ∧ Below w.heap.size w w' := by
  go_enter Tryz.func67, Tryz.ntmps67
  go_wp2_with fail
  refine (letters_any s _ hs).mono ?_
  rintro e w2 ⟨hB, ⟨ho, rfl⟩ | ⟨ls, a, cap, ho, rfl, hins⟩⟩
  · have ht : Hid _ := tokB_none ho
    clear ho
    go_wp2
    refine wp_loop_rounds 1 ?_
    rw [rounds_succ]
    go_wp2
    go_ret
    exact ⟨ret_bool (by rw [ht.out]), hB⟩
  · have ht : Hid _ := tokB_some ho
    have hll := lets_le _ _ _ ho
    rw [bl_len] at hll
    have HI : Hid _ := hins
    have HB : Hid _ := hB
    clear ho hins hB
    go_wp2
    go_loop [5] (fun i => ∃ k : Nat, k ≤ ls.length ∧ i = .int .i64 k ∧ ∀ j, j < k → isPart (ls.getD j 0) = true) (fun i => ls.length - (intOf i).toNat)
    case atStart => exact ⟨0, Nat.zero_le _, rfl, fun j hj => by omega⟩
    case round =>
      obtain ⟨k, hk, rfl, hp⟩ := hrel
      have HP : Hid _ := hp
      clear hp
      by_cases hlt : k < ls.length
      · rcases HI.out with h0 | ⟨b, rfl, hc⟩
        · rw [h0] at hlt; simp at hlt
        · have hck := hc k hlt
          clear hc
          by_cases hpk : isPart (ls.getD k 0) = true
          · generalize hx : ls.getD k 0 = x at *
            have HX : Hid _ := hx
            clear hx
            go_wp2_with (go_at_call 118; refine (rpart_any _ _).mono ?_; rintro e w' ⟨rfl, rfl⟩)
            go_round
            case rel =>
              refine ⟨k + 1, by omega, by go_num, fun j hj => ?_⟩
              by_cases e : j = k
              · subst e; rw [HX.out]; exact hpk
              · exact HP.out j (by omega)
            case measure => simp [intOf]; omega
          · have hpk' : isPart (ls.getD k 0) = false := by simpa using hpk
            have hn : Hid _ := all_not ls k hlt hpk'
            clear hpk
            generalize ls.getD k 0 = x at *
            go_wp2_with (go_at_call 118; refine (rpart_any _ _).mono ?_; rintro e w' ⟨rfl, rfl⟩)
            go_ret
            exact ⟨ret_bool (by rw [ht.out, hn.out]; rfl), HB.out⟩
      · have hn : Hid _ := all_take ls k HP.out (by omega)
        go_wp2
        go_ret
        exact ⟨ret_bool (by rw [ht.out, hn.out]; simp), HB.out⟩

set_option maxHeartbeats 1000000 in
theorem rname_any (s : ByteArray) (w : World) (hs : s.size ≤ 100000) :
    Calls Tryz.prog 68 #[.string s] w fun e w' => e = .returned (.bool (nameB (bl s))) ∧ Below w.heap.size w w' := by
  go_enter Tryz.func68, Tryz.ntmps68
  go_wp2_with fail
  refine (letters_any s _ hs).mono ?_
  rintro e w2 ⟨hB, ⟨ho, rfl⟩ | ⟨ls, a, cap, ho, rfl, hins⟩⟩
  · have ht : Hid (nameB (bl s) = false) := by show _ = _; unfold nameB; rw [tokB_none ho]; simp
    clear ho
    go_wp2
    go_ret
    exact ⟨ret_bool (by rw [ht.out]), hB⟩
  · have ht := tokB_some ho
    have hh := lets_head _ _ _ (Nat.le_refl _) ho
    clear ho
    by_cases h0 : ls.length = 0
    · have hn : Hid (nameB (bl s) = false) := by show _ = _; unfold nameB; rw [ht, decide_eq_false (by omega)]; simp
      have HB : Hid _ := hB
      clear hB hins hh ht
      go_wp2
      go_ret
      exact ⟨ret_bool (by rw [hn.out]), HB.out⟩
    · have hpos : 0 < ls.length := by omega
      have hfirst := hh.2 hpos
      rcases hins with h | ⟨b, rfl, hc⟩
      · rw [h] at hpos; simp at hpos
      have hc0 := hc 0 hpos
      rw [hfirst] at hc0
      have HB : Hid _ := hB
      clear hB hc hh ht hfirst h0
      by_cases hst : isStart (dec (bl s)).1 = true
      · go_wp2_with fail
        refine (rstart_any _ _).mono ?_
        rw [hst]
        rintro e w3 ⟨rfl, rfl⟩
        go_wp2_with fail
        refine (rtok_any s _ hs).mono ?_
        rintro e w4 ⟨rfl, hb4⟩
        go_wp2
        go_ret
        exact ⟨ret_bool (by unfold nameB; rw [hst]; rfl), HB.out.trans (hb4.mono HB.out.size)⟩
      · have hst' : isStart (dec (bl s)).1 = false := by simpa using hst
        clear hst
        go_wp2_with fail
        refine (rstart_any _ _).mono ?_
        rw [hst']
        rintro e w3 ⟨rfl, rfl⟩
        go_wp2
        go_ret
        exact ⟨ret_bool (by unfold nameB; rw [hst']; rfl), HB.out⟩

theorem ix_none (l : List Int) (h : ∀ j, j < l.length → ¬ l.getD j 0 = 58) : ix l = -1 := by
  induction l with
  | nil => rfl
  | cons b l ih =>
    have h0 : ¬ b = 58 := by simpa using h 0 (by simp)
    have := ih (fun j hj => by simpa using h (j + 1) (by simp; omega))
    simp [ix, h0, this]
theorem ix_found (l : List Int) (k : Nat) (hk : k < l.length) (h : ∀ j, j < k → ¬ l.getD j 0 = 58) (hf : l.getD k 0 = 58) : ix l = (k : Int) := by
  induction l generalizing k with
  | nil => simp at hk
  | cons b l ih =>
    cases k with
    | zero =>
      have : b = 58 := by simpa using hf
      simp [ix, this]
    | succ k =>
      have h0 : ¬ b = 58 := by simpa using h 0 (by omega)
      have := ih k (by simpa using hk) (fun j hj => by simpa using h (j + 1) (by omega)) (by simpa using hf)
      simp only [ix, h0, if_false, this]
      rw [if_neg (by omega)]
      omega
theorem bl_at (s : ByteArray) (k : Nat) (h : k < s.size) : (bl s).getD k 0 = (s[k].toNat : Int) := by
  have : k < s.data.size := h
  unfold bl
  rw [List.getD_eq_getElem?_getD, List.getElem?_map, Array.getElem?_toList, Array.getElem?_eq_getElem this]
  rfl

set_option maxHeartbeats 1000000 in
theorem rnc_any (s : ByteArray) (w : World) (hs : s.size ≤ 100000) :
    Calls Tryz.prog 69 #[.string s] w fun e w' => e = .returned (.bool (ncB (bl s))) ∧ Below w.heap.size w w' := by
  go_enter Tryz.func69, Tryz.ntmps69
  go_wp2
  go_loop [3] (fun i => ∃ k : Nat, k ≤ s.size ∧ i = .int .i64 k ∧ ∀ j, j < k → ¬ (bl s).getD j 0 = 58) (fun i => s.size - (intOf i).toNat)
  case atStart => exact ⟨0, Nat.zero_le _, rfl, fun j hj => by omega⟩
  case round =>
    obtain ⟨k, hk, rfl, hp⟩ := hrel
    have HP : Hid _ := hp
    clear hp
    by_cases hlt : k < s.size
    · have hat : Hid _ := bl_at s k hlt
      by_cases hc : (bl s).getD k 0 = 58
      · have hx := ix_found (bl s) k (by rw [bl_len]; exact hlt) HP.out hc
        have hn : Hid (ncB (bl s) = false) := by show _ = _; unfold ncB; rw [decide_eq_true (by omega)]; simp
        have hb : ((s[k].toNat : Int) == 58) = true := by rw [← hat.out]; exact beq_iff_eq.2 hc
        clear hx hc
        go_wp2
        go_ret
        exact ⟨ret_bool (by rw [hn.out]), Below.refl _ _⟩
      · have hb : ((s[k].toNat : Int) == 58) = false := by rw [← hat.out]; exact beq_eq_false_iff_ne.2 hc
        have HC : Hid _ := hc
        clear hc
        go_wp2
        go_round
        case rel =>
          refine ⟨k + 1, by omega, by go_num, fun j hj => ?_⟩
          by_cases e : j = k
          · subst e; exact HC.out
          · exact HP.out j (by omega)
        case measure => simp [intOf]; omega
    · have hx := ix_none (bl s) (fun j hj => HP.out j (by rw [bl_len] at hj; omega))
      have hn : Hid (ncB (bl s) = nameB (bl s)) := by show _ = _; unfold ncB; rw [decide_eq_false (by omega)]; simp
      clear hx
      go_wp2_with fail
      refine (rname_any s _ hs).mono ?_
      rw [← hn.out]
      rintro e w2 ⟨rfl, hb2⟩
      go_wp2
      go_ret
      exact ⟨rfl, hb2⟩

end Go.Proofs.YtgaegajcejpmdaaGreatDoor.Ch
namespace Go.Proofs.YtgaegajcejpmdaaGreatDoor.Ch
open Go.RowKit
set_option linter.unusedVariables false

theorem size_zero {s : ByteArray} (h : s.size = 0) : s = ⟨#[]⟩ := by
  cases s with
  | mk d =>
    have h' : d.size = 0 := h
    have : d = #[] := Array.eq_empty_of_size_eq_zero h'
    subst this
    rfl
theorem toList_ne {s : ByteArray} (h : ¬ s.size = 0) : s.toList.isEmpty = false := by
  have hsz : s.toList.length ≠ 0 := by rw [Lib.toList_data, Array.length_toList]; exact h
  cases hl : s.toList with
  | nil => rw [hl] at hsz; simp at hsz
  | cons a l => rfl
theorem bl_app (a b : ByteArray) : bl (a ++ b) = bl a ++ bl b := by
  simp [bl]
theorem bl_one (s : ByteArray) (k : Nat) (h : k < s.size) : bl (s.extract k (k + 1)) = [(bl s).getD k 0] := by
  have h' : k < s.data.size := h
  rw [bl_at s k h]
  unfold bl
  simp
  rw [List.drop_eq_getElem_cons (by simpa using h')]
  simp
  rfl
theorem own_strs {w : World} {base n : Nat} {v : Value} {l : List ByteArray} (h : w.ownsRow base 9 1 v n (l.map Value.string)) : ∃ a cap, v = .slice a l.length cap ∧ cap ≤ maxLen ∧ Sts w a l := by
  have hn : n = l.length := by have := h.1; simp at this; omega
  subst hn
  rcases h.2 with ⟨rfl, h0⟩ | ⟨g, cap, cur, rfl, hbg, hg, hnc, hcm, hcs, htake⟩
  · exact ⟨none, 0, by rw [h0], Nat.zero_le _, .inl (List.eq_nil_of_length_eq_zero h0)⟩
  · refine ⟨_, cap, rfl, hcm, .inr ⟨g, rfl, fun i hi => ?_⟩⟩
    have := h.cells (g := g) rfl i (.string (l.getD i ⟨#[]⟩)) (by simp [List.getD_eq_getElem?_getD, hi])
    rw [addr_add, Nat.zero_add] at this
    exact this

def WRel (w : World) (n : Nat) (l : List Int) (v3 v4 i : Value) (wr : World) : Prop :=
  ∃ (k : Nat) (done : List ByteArray) (cur : ByteArray), k ≤ n + 1 ∧ i = .int .i64 k ∧ v4 = .string cur ∧ wr.ownsRow w.heap.size 9 1 v3 done.length (done.map Value.string) ∧ Below w.heap.size w wr ∧ done.length ≤ k ∧ cur.size ≤ k ∧
    ((k ≤ n ∧ (wd l []).map sb = done ++ (wd (l.drop k) (bl cur)).map sb) ∨ (k = n + 1 ∧ (wd l []).map sb = done))

set_option maxHeartbeats 1000000 in
theorem rwords_any (s : ByteArray) (w : World) (hs : s.size ≤ 100000) :
    Calls Tryz.prog 66 #[.string s] w fun e w' => ∃ a cap, e = .returned (.slice a (wordsOf (bl s)).length cap) ∧ Sts w' a (wordsOf (bl s)) ∧ Below w.heap.size w w' := by
  obtain ⟨i0, hi, hz0, hz1, hz2⟩ := info_parts info9
  rw [wordsOf_wd]
  go_enter Tryz.func66, Tryz.ntmps66
  go_wp2
  go_loopw [3, 4, 5] (fun v3 v4 i wr => WRel w s.size (bl s) v3 v4 i wr) (fun _ _ i _ => s.size + 1 - (intOf i).toNat)
  case atStart => exact ⟨0, [], ⟨#[]⟩, Nat.zero_le _, rfl, rfl, World.ownsRow_nil _ _ _ _, Below.refl _ _, Nat.zero_le _, Nat.zero_le _, .inl ⟨Nat.zero_le _, rfl⟩⟩
  case round =>
    obtain ⟨k, done, cur, hk, rfl, rfl, hown, hB, hdl, hcs, hall⟩ := hrel
    have HB : Hid _ := hB
    clear hB
    by_cases hle : k ≤ s.size
    · have hall' : (wd (bl s) []).map sb = done ++ (wd ((bl s).drop k) (bl cur)).map sb := by
        rcases hall with h | h
        · exact h.2
        · omega
      clear hall
      by_cases hlt : k < s.size
      · have hdk := drop_at (bl s) k (by rw [bl_len]; exact hlt)
        have hat := bl_at s k hlt
        rw [hdk, hat] at hall'
        have h1 := bl_one s k hlt
        rw [hat] at h1
        have H1 : Hid _ := h1
        have hk1 : (k : Int) + 1 ≤ (s.size : Int) := by omega
        have hbd : (s[k].toNat : Int) < 256 := by have := s[k].toNat_lt; omega
        clear hdk hat h1
        by_cases hw : isWhite (s[k].toNat : Int) = true
        · simp only [wd] at hall'
          rw [if_pos hw] at hall'
          by_cases h0 : cur.size = 0
          · have hc0 := size_zero h0
            subst hc0
            rw [if_pos (by rfl)] at hall'
            have HA : Hid _ := hall'
            clear hall' h0
            go_wp2_with (go_at_call 65; refine (rwhite_any _ _).mono ?_; rintro e w' ⟨rfl, rfl⟩)
            go_roundw
            case rel => exact ⟨k + 1, done, ⟨#[]⟩, by omega, by go_num, rfl, hown, HB.out, by omega, Nat.zero_le _, .inl ⟨by omega, HA.out⟩⟩
            case measure => simp [intOf]; omega
          · have hne := toList_ne h0
            rw [if_neg (by rw [bl_len]; exact h0)] at hall'
            have HA : Hid _ := hall'
            clear hall' h0
            go_wp2_with (first | (go_at_call 65; refine (rwhite_any _ _).mono ?_; rintro e wq ⟨rfl, rfl⟩) | (at_builtin; refine wpList_append_own _ rfl (.tmp 33) (.tmp 35) 62 rfl w.heap.size 9 i0 (.string ⟨#[]⟩) 1 16 Tryz.underlying62 hi hz0 hz1 hz2 rfl (by decide) _ _ _ rfl (hown.alloc _) ⟨wq.heap.size, 0, none⟩ 1 1 [.string cur] rfl rfl (cell_one_new _ _ _) (by intro u hu; simp at hu; subst hu; rfl) (by unfold maxLen; omega) (by omega) (by have := HB.out.size; simp; omega) ?_; intro v3n w3 hown3 hgr3 _))
            go_roundw
            case rel =>
              refine ⟨k + 1, done ++ [cur], ⟨#[]⟩, by omega, by go_num, rfl, by simpa using hown3, (HB.out.alloc HB.out.size _).grown hgr3 (by have := HB.out.size; simp; omega) (fun j hj => (hown.lt j hj).1), by simp; omega, Nat.zero_le _, .inl ⟨by omega, ?_⟩⟩
              rw [HA.out]
              simp [sb_bl]
              rfl
            case measure => simp [intOf]; omega
        · simp only [wd] at hall'
          rw [if_neg hw] at hall'
          have hw' : isWhite (s[k].toNat : Int) = false := by simpa using hw
          have HA : Hid _ := hall'
          clear hall' hw
          go_wp2_with (go_at_call 65; refine (rwhite_any _ _).mono ?_; rintro e w' ⟨rfl, rfl⟩)
          go_roundw
          case rel =>
            refine ⟨k + 1, done, cur ++ s.extract k (k + 1), by omega, by go_num, rfl, hown, HB.out, by omega, by simp; omega, .inl ⟨by omega, ?_⟩⟩
            rw [HA.out, bl_app, H1.out]
          case measure => simp [intOf]; omega
      · have hkn : k = s.size := by omega
        rw [List.drop_eq_nil_of_le (by rw [bl_len]; omega)] at hall'
        simp only [wd] at hall'
        by_cases h0 : cur.size = 0
        · have hc0 := size_zero h0
          subst hc0
          rw [if_pos (by rfl)] at hall'
          have HA : Hid _ := hall'
          clear hall' h0
          go_wp2
          go_roundw
          case rel => exact ⟨k + 1, done, ⟨#[]⟩, by omega, by go_num, rfl, hown, HB.out, by omega, Nat.zero_le _, .inr ⟨by omega, by rw [HA.out]; simp⟩⟩
          case measure => simp [intOf]; omega
        · have hne := toList_ne h0
          rw [if_neg (by rw [bl_len]; exact h0)] at hall'
          have HA : Hid _ := hall'
          clear hall' h0
          go_wp2_with (at_builtin; refine wpList_append_own _ rfl (.tmp 33) (.tmp 35) 62 rfl w.heap.size 9 i0 (.string ⟨#[]⟩) 1 16 Tryz.underlying62 hi hz0 hz1 hz2 rfl (by decide) _ _ _ rfl (hown.alloc _) ⟨wr.heap.size, 0, none⟩ 1 1 [.string cur] rfl rfl (cell_one_new _ _ _) (by intro u hu; simp at hu; subst hu; rfl) (by unfold maxLen; omega) (by omega) (by have := HB.out.size; simp; omega) ?_; intro v3n w3 hown3 hgr3 _)
          go_roundw
          case rel =>
            refine ⟨k + 1, done ++ [cur], ⟨#[]⟩, by omega, by go_num, rfl, by simpa using hown3, (HB.out.alloc HB.out.size _).grown hgr3 (by have := HB.out.size; simp; omega) (fun j hj => (hown.lt j hj).1), by simp; omega, Nat.zero_le _, .inr ⟨by omega, ?_⟩⟩
            rw [HA.out]
            simp [sb_bl]
          case measure => simp [intOf]; omega
    · have hall' : (wd (bl s) []).map sb = done := by
        rcases hall with h | h
        · omega
        · exact h.2
      obtain ⟨a, cap, rfl, hcm, hst⟩ := own_strs hown
      have HA : Hid _ := hall'
      clear hall hall' hown
      go_wp2
      go_ret
      rw [HA.out]
      exact ⟨a, cap, rfl, hst, HB.out⟩

theorem join_take (ws : List (List Int)) (k : Nat) (h : k < ws.length) : join (ws.take (k + 1)) = if k = 0 then ws.getD k [] else join (ws.take k) ++ 32 :: ws.getD k [] := by
  have e : ws.take (k + 1) = ws.take k ++ [ws.getD k []] := by
    rw [List.take_succ_eq_append_getElem h]
    simp [List.getD_eq_getElem?_getD, h]
  rw [e]
  by_cases h0 : k = 0
  · subst h0; simp [join]
  · rw [if_neg h0, join_snoc _ (by intro g; have := congrArg List.length g; rw [List.length_take, Nat.min_eq_left (by omega)] at this; exact h0 this)]
theorem wd_bd (l : List Int) : ∀ cur, (∀ i, 0 ≤ l.getD i 0 ∧ l.getD i 0 < 256) → (∀ i, 0 ≤ cur.getD i 0 ∧ cur.getD i 0 < 256) → ∀ w ∈ wd l cur, ∀ i, 0 ≤ w.getD i 0 ∧ w.getD i 0 < 256 := by
  induction l with
  | nil =>
    intro cur hl hc w hw
    simp only [wd] at hw
    split at hw
    · simp at hw
    · simp at hw; subst hw; exact hc
  | cons c l ih =>
    intro cur hl hc w hw
    have hl' : ∀ i, 0 ≤ l.getD i 0 ∧ l.getD i 0 < 256 := fun i => by simpa using hl (i + 1)
    have h0 : 0 ≤ c ∧ c < 256 := by simpa using hl 0
    have hn : ∀ i, 0 ≤ ([] : List Int).getD i 0 ∧ ([] : List Int).getD i 0 < 256 := by intro i; simp
    simp only [wd] at hw
    split at hw
    · split at hw
      · exact ih [] hl' hn w hw
      · rcases List.mem_cons.1 hw with rfl | h
        · exact hc
        · exact ih [] hl' hn w h
    · exact ih (cur ++ [c]) hl' (getD_app hc c h0.1 h0.2) w hw
theorem word_bd (l : List Int) (h : ∀ i, 0 ≤ l.getD i 0 ∧ l.getD i 0 < 256) (k : Nat) : ∀ i, 0 ≤ ((wd l []).getD k []).getD i 0 ∧ ((wd l []).getD k []).getD i 0 < 256 := by
  have hn : ∀ i, 0 ≤ ([] : List Int).getD i 0 ∧ ([] : List Int).getD i 0 < 256 := by intro i; simp
  rcases Nat.lt_or_ge k (wd l []).length with g | g
  · refine wd_bd l [] h hn _ ?_
    rw [List.getD_eq_getElem?_getD, List.getElem?_eq_getElem g]
    exact List.getElem_mem g
  · rw [List.getD_eq_getElem?_getD, List.getElem?_eq_none g]
    exact hn
theorem join_grow (t r : List (List Int)) : (join t).length ≤ (join (t ++ r)).length := by
  induction t with
  | nil => simp [join]
  | cons a t ih =>
    cases t with
    | nil =>
      cases r with
      | nil => simp
      | cons b r => simp [join]
    | cons b t =>
      simp only [List.cons_append, join, List.length_append, List.length_cons] at ih ⊢
      omega
theorem join_le (ws : List (List Int)) (k : Nat) : (join (ws.take k)).length ≤ (join ws).length := by
  have := join_grow (ws.take k) (ws.drop k)
  rw [List.take_append_drop] at this
  exact this
theorem word_le (ws : List (List Int)) (k : Nat) (h : k < ws.length) : (ws.getD k []).length ≤ (join ws).length := by
  have h1 := join_take ws k h
  have h2 := join_le ws (k + 1)
  rw [h1] at h2
  split at h2
  · exact h2
  · rw [List.length_append, List.length_cons] at h2; omega

set_option maxHeartbeats 1000000 in
theorem rspace_col (s : ByteArray) (w : World) (hs : s.size ≤ 100000) :
    Calls Tryz.prog 39 #[.string s, .int .i64 3] w fun e w' => e = .returned (.string (sb (col (bl s) [] false))) ∧ Below w.heap.size w w' := by
  have hcl := col_len (bl s) [] false
  rw [bl_len] at hcl
  simp at hcl
  have hwl := words_le (bl s)
  rw [bl_len] at hwl
  rw [wordsOf_wd, List.length_map] at hwl
  have hbd := col_bd (bl s) [] false (bl_bd s) (by intro i; simp)
  have hwd := wordsOf_wd (bl s)
  have hcj := col_join (bl s)
  rw [hcj] at hcl hbd ⊢
  have HW : Hid _ := hwd
  have hwb : ∀ k, k < (wd (bl s) []).length → bl (sb ((wd (bl s) []).getD k [])) = (wd (bl s) []).getD k [] := fun k hk => bl_sb _ (word_bd (bl s) (bl_bd s) k)
  have HWB : Hid _ := hwb
  clear hwd hcj hwb
  go_enter Tryz.func39, Tryz.ntmps39
  go_wp2_with fail
  refine (rwords_any s _ hs).mono ?_
  rw [HW.out]
  clear HW
  generalize hws : wd (bl s) [] = ws at *
  have HWS : Hid _ := hws
  clear hws
  rintro e w2 ⟨a, cap, rfl, hst, hB⟩
  rw [List.length_map]
  have HS : Hid _ := hst
  have HB : Hid _ := hB
  have HBd : Hid _ := hbd
  clear hst hB hbd
  go_wp2
  go_loop [8, 9] (fun v8 v9 => ∃ (k : Nat) (t : ByteArray), k ≤ ws.length ∧ v9 = .int .i64 k ∧ v8 = .string t ∧ bl t = join (ws.take k)) (fun _ i => ws.length - (intOf i).toNat)
  case atStart => exact ⟨0, ⟨#[]⟩, Nat.zero_le _, rfl, rfl, rfl⟩
  case round =>
    obtain ⟨k, t, hk, rfl, rfl, ht⟩ := hrel
    have hts : t.size ≤ 100000 := by rw [← bl_len, ht]; have := join_le ws k; omega
    have HT : Hid _ := ht
    clear ht
    by_cases hlt : k < ws.length
    · rcases HS.out with h0 | ⟨b, rfl, hc⟩
      · have := congrArg List.length h0; simp at this; rw [this] at hlt; simp at hlt
      have hck := hc k (by simpa using hlt)
      rw [getD_sb ws k hlt] at hck
      have hwk := word_le ws k hlt
      have hwz : (sb (ws.getD k [])).size ≤ 100000 := by rw [sb_size]; omega
      have HJ : Hid _ := join_take ws k hlt
      have HK : Hid _ := HWB.out k hlt
      clear hc hwk
      generalize hx : sb (ws.getD k []) = x at *
      clear hx
      by_cases h0 : k = 0
      · subst h0
        go_wp2
        go_round
        case rel =>
          refine ⟨1, t ++ x, by omega, rfl, rfl, ?_⟩
          rw [bl_app, HT.out, HK.out, HJ.out]
          simp [join]
        case measure => simp [intOf]; omega
      · have hpos : (0 : Int) < (k : Int) := by omega
        go_wp2
        go_round
        case rel =>
          refine ⟨k + 1, t ++ ⟨#[32]⟩ ++ x, by omega, by go_num, rfl, ?_⟩
          rw [bl_app, bl_app, HT.out, HK.out, HJ.out, if_neg h0, List.append_assoc]
          rfl
        case measure => simp [intOf]; omega
    · have hfin : Hid (t = sb (join ws)) := by
        show _ = _
        rw [← sb_bl t, HT.out, List.take_of_length_le (by omega)]
      go_wp2
      go_ret
      refine ⟨?_, HB.out⟩
      rw [HWS.out, ← hfin.out]; rfl

set_option maxHeartbeats 1000000 in
theorem rspace_rep (s : ByteArray) (w : World) (hs : s.size ≤ 100000) :
    Calls Tryz.prog 39 #[.string s, .int .i64 2] w fun e w' => e = .returned (.string (sb ((bl s).map rp))) ∧ Below w.heap.size w w' := by
  obtain ⟨cap, w1, hc, hcm, hrun, hbel, hcell, hfr⟩ := conv_free s w (by unfold maxLen; omega)
  have hstart : RepRel w s.size (bl s) (.int .i64 0) w1 := ⟨0, Nat.zero_le _, rfl, hbel, hfr, fun j hj => by rw [hcell j hj]; simp⟩
  have HS : Hid _ := hstart
  have HBd : Hid _ := bl_bd s
  have HL : Hid _ := bl_len s
  clear hstart hbel hcell hfr hc hcm
  generalize bl s = l at *
  go_enter Tryz.func39, Tryz.ntmps39
  go_wp2
  go_loopw [6] (fun i wr => RepRel w s.size l i wr) (fun i _ => s.size - (intOf i).toNat)
  case atStart => exact HS.out
  case round =>
    obtain ⟨k, hk, rfl, hbel, hfr, hcell⟩ := hrel
    have HB : Hid _ := hbel
    have HF : Hid _ := hfr
    have HC : Hid _ := hcell
    clear hbel HS hrun
    by_cases hlt : k < s.size
    · have hfk := hfr k hlt
      have hck := hcell k hlt
      rw [if_neg (Nat.lt_irrefl k)] at hck
      have hb1 := (HBd.out k).1
      have hb2 := (HBd.out k).2
      clear hfr hcell
      by_cases hw : isWhite (l.getD k 0) = true
      · have hr : Hid (rp (l.getD k 0) = 32) := by show _ = _; unfold rp; rw [if_pos hw]
        generalize hx : l.getD k 0 = c at *
        have HX : Hid _ := hx
        clear hx
        go_wp2_with (go_at_call 65; refine (rwhite_any _ _).mono ?_; rintro e w' ⟨rfl, rfl⟩)
        go_roundw
        case rel =>
          refine ⟨k + 1, by omega, by go_num, HB.out.setCell (Nat.le_refl _) _, fun j hj => by simpa using HF.out j hj, fun j hj => ?_⟩
          by_cases e : j = k
          · subst e
            rw [World.cell?_setCell_same' _ _ _ (by rw [hck]; rfl), if_pos (by omega), HX.out, hr.out]
          · rw [World.cell?_setCell_other _ _ _ _ (addr_ne _ (fun h => e h.symm)), HC.out j hj]
            by_cases g : j < k
            · rw [if_pos g, if_pos (by omega)]
            · rw [if_neg g, if_neg (by omega)]
        case measure => simp [intOf]; omega
      · have hw' : isWhite (l.getD k 0) = false := by simpa using hw
        have hr : Hid (rp (l.getD k 0) = l.getD k 0) := by show _ = _; unfold rp; rw [if_neg hw]
        clear hw
        generalize hx : l.getD k 0 = c at *
        have HX : Hid _ := hx
        clear hx
        go_wp2_with (go_at_call 65; refine (rwhite_any _ _).mono ?_; rintro e w' ⟨rfl, rfl⟩)
        go_roundw
        case rel =>
          refine ⟨k + 1, by omega, by go_num, HB.out, HF.out, fun j hj => ?_⟩
          rw [HC.out j hj]
          by_cases g : j < k
          · rw [if_pos g, if_pos (by omega)]
          · rw [if_neg g]
            by_cases e : j = k
            · subst e; rw [if_pos (by omega), HX.out, hr.out]
            · rw [if_neg (by omega)]
        case measure => simp [intOf]; omega
    · have hcv := conv_string w.heap.size 0 cap (l.map rp) wr (fun j hj => by
        rw [List.length_map] at hj
        rw [Nat.zero_add, HC.out j (by rw [← HL.out]; exact hj), if_pos (by rw [HL.out] at hj; omega), rp_getD l j hj])
      rw [List.length_map, HL.out] at hcv
      clear hfr hcell
      go_wp2
      go_ret
      exact ⟨rfl, HB.out⟩
set_option maxHeartbeats 400000 in
theorem rspace_any (s : ByteArray) (how : Int) (w : World) (hs : s.size ≤ 100000) :
    Calls Tryz.prog 39 #[.string s, .int .i64 how] w fun e w' => e = .returned (.string (spc s how)) ∧ Below w.heap.size w w' := by
  by_cases h2 : how = 2
  · subst h2; exact rspace_rep s w hs
  · by_cases h3 : how = 3
    · subst h3; exact rspace_col s w hs
    · have e2 : (how == 2) = false := beq_eq_false_iff_ne.2 h2
      have e3 : (how == 3) = false := beq_eq_false_iff_ne.2 h3
      have hq : Hid (spc s how = s) := by show _ = _; unfold spc; rw [if_neg h2, if_neg h3]
      clear h2 h3
      go_enter Tryz.func39, Tryz.ntmps39
      go_wp2
      go_ret
      refine ⟨?_, Below.refl _ _⟩
      rw [hq.out]; rfl
end Go.Proofs.YtgaegajcejpmdaaGreatDoor.Ch
