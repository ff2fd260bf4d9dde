/- Joined: HK12, HK17. -/
import Derived.Test.YtgaegajcejpmdaaGreatDoorHK10a
import Derived.Test.YtgaegajcejpmdaaGreatDoorHK10b
import Derived.Test.YtgaegajcejpmdaaGreatDoorHK11
import Derived.Test.YtgaegajcejpmdaaGreatDoorHJ13
namespace Go.Proofs.YtgaegajcejpmdaaGreatDoor
open Go.RowKit
set_option linter.unusedVariables false
set_option linter.unusedSimpArgs false

theorem alloc_setRow (w : World) (old cs : Array Value) (t : TypeId) : (w.alloc (.cells old t)).setRow w.heap.size cs = w.alloc (.cells cs t) := by
  have h1 := setRow_heap (w.alloc (.cells old t)) w.heap.size old cs t (0, 0) (nw_heap w _)
  unfold World.setRow World.alloc
  congr 1
  apply Array.ext
  · simp
  · intro i h1 h2
    simp at h1 h2 ⊢
    by_cases h : i = w.heap.size
    · subst h; simp [Array.getElem_modify]
    · have : i < w.heap.size := by omega
      simp [Array.getElem_modify, Array.getElem_push, this, h]
      omega
/-- A number's fields. -/
def KN (n : Dc.Nm) (p : Int) (tx : ByteArray) (ng : Bool) (l : List Int) (sc : Int) (m : Dt.Mo) (q : Dt.Sp) : Prop := p = 10 ∧ tx = ⟨#[]⟩ ∧ ng = n.1 ∧ l = n.2.1 ∧ sc = n.2.2 ∧ m = z0 ∧ q = sp0
theorem wh3 {k : Int} (h0 : 3 ≤ k) (h1 : k ≤ 32) : whS k = 3 := by
  unfold whS
  rw [if_pos (isK_iff.2 (by omega)), if_neg (by omega), if_neg (by omega)]
theorem parseN {n : Dc.Nm} (k : Int) (s : ByteArray) (w : World) (hk0 : 10 ≤ k) (hk1 : k ≤ 23) (hs : s.size ≤ 100000) (hs2 : (Ch.spc s 3).size ≤ 100000) (hw : Lw w) (hq : Dc.parS (Dc.bl (Ch.spc s 3)) = .ok n) : Calls Tryz.prog 21 #[.int .i64 k, .string s] w (PsG (KN n) (cntB k (Dc.bl (Ch.spc s 3)) n) w) := by
  refine parse_of k s w (isK_iff.2 (by omega)) hs (fun W hW => ?_)
  rw [wh3 (by omega) (by omega)]
  refine (readN_ok k _ W hk0 hk1 hs2 (hw.below hW) hq).mono ?_
  rintro e w' ⟨hb, h⟩
  rw [hq] at h
  obtain ⟨rv, rfl, hbt⟩ := h
  exact ⟨hb, _, _, _, _, _, _, _, _, rfl, hbt, fun _ => ⟨rfl, rfl, rfl, rfl, rfl, rfl, rfl⟩⟩
theorem parseNe {x : Int} (k : Int) (s : ByteArray) (w : World) (hk0 : 10 ≤ k) (hk1 : k ≤ 23) (hs : s.size ≤ 100000) (hs2 : (Ch.spc s 3).size ≤ 100000) (hq : Dc.parS (Dc.bl (Ch.spc s 3)) = .error x) : Calls Tryz.prog 21 #[.int .i64 k, .string s] w (PsG (fun _ _ _ _ _ _ _ => True) false w) := by
  refine parse_of k s w (isK_iff.2 (by omega)) hs (fun W hW => ?_)
  rw [wh3 (by omega) (by omega)]
  refine (readN_err k _ W hk0 hk1 hs2 hq).mono ?_
  rintro e w' ⟨hb, h⟩
  rw [hq] at h
  obtain ⟨p, t, ng, sl, sc, m, q, rfl, hbt⟩ := h
  exact ⟨hb, p, t, ng, sl, [], sc, m, q, rfl, hbt, fun q => by cases q⟩
theorem spc_size (s : ByteArray) (how : Int) : (Ch.spc s how).size ≤ s.size := by
  have hsb : ∀ l : List Int, (Ch.sb l).size = l.length := fun l => by simp [Ch.sb, ByteArray.size]
  unfold Ch.spc
  split
  · rw [hsb, List.length_map, Ch.bl_len]; exact Nat.le_refl _
  · split
    · rw [hsb]
      have := Ch.col_len (Ch.bl s) [] false
      rw [Ch.bl_len] at this
      simpa using this
    · exact Nat.le_refl _
set_option maxRecDepth 100000 in
set_option maxHeartbeats 1600000 in
/-- Text, of a number. -/
theorem textN {w : World} {v : Value} {n : Dc.Nm} (tx : ByteArray) (m : Dt.Mo) (q : Dt.Sp) (h : Dc.NmR w v n) : Calls Tryz.prog 24 #[vlV 10 tx n.1 v n.2.2 m q] w fun e w' => e = .returned (.string (Dc.sb (Dc.txS n))) ∧ Below w.heap.size w w' := by
  obtain ⟨va, vc, rfl, _⟩ := h.bt.form
  have hbx := BX.new w 40 (vlL 10 tx n.1 (.slice va n.2.1.length vc) n.2.2 m q)
  have ht := fun W (hW : Below w.heap.size w W) => Dc.text_p (h.below hW)
  have HT : Hid _ := And.intro ht hbx.bel
  clear ht h hbx
  go_enter Tryz.func24, Tryz.ntmps24
  go_wp2_with (go_at_call 32; refine Calls.mono (HT.out.1 _ HT.out.2) ?_; rintro e w9 ⟨rfl, hb9⟩)
  go_ret
  exact ⟨rfl, HT.out.2.trans (hb9.mono HT.out.2.size)⟩
end Go.Proofs.YtgaegajcejpmdaaGreatDoor
namespace Go.Proofs.YtgaegajcejpmdaaGreatDoor
open Go.RowKit
set_option linter.unusedVariables false
set_option linter.unusedSimpArgs false

/-- The text of a number by its digits. -/
def dcT (neg : Bool) (D : List Int) : List Int := (if neg = true then [45] else []) ++ D.map (· + 48)
theorem dgs_map {D : List Int} (h : Dc.Dg D) : Dc.dgs (D.map (· + 48)) = true := by
  unfold Dc.dgs
  rw [List.all_eq_true]
  intro c hc
  obtain ⟨d, hd, rfl⟩ := List.mem_map.1 hc
  have := h d hd
  simp
  omega
theorem map_back (D : List Int) : (D.map (· + 48)).map (· - 48) = D := by
  rw [List.map_map]
  have : ((fun x : Int => x - 48) ∘ fun x => x + 48) = id := by funext x; simp
  rw [this, List.map_id]
theorem dg0 {D : List Int} (h : Dc.Dg D) : Dc.Dg (0 :: D) := fun d hd => by
  rcases List.mem_cons.1 hd with rfl | hd
  · omega
  · exact h d hd
theorem dval0 (D : List Int) : Dc.dval (0 :: D) = Dc.dval D := by
  unfold Dc.dval
  simp
theorem dc_par {neg : Bool} {D : List Int} (h : Dc.Dg D) (hn : D ≠ []) (hl : D.length ≤ 20) : ∃ n, Dc.parS (dcT neg D) = .ok n ∧ Dc.nv n 0 = if neg = true then -(Dc.dval D) else Dc.dval D := by
  have hne : D.map (· + 48) ≠ [] := by simpa using hn
  cases neg with
  | true =>
    have := Dc.form2 (g := 45) (.inr rfl) (dgs_map h) hne (by simp; omega)
    refine ⟨_, this, ?_⟩
    rw [map_back]
    have hv := Dc.canS_nv true (0 :: D) 0 (dg0 h) (Nat.zero_le _)
    rw [dval0] at hv
    simpa using hv
  | false =>
    have := Dc.form3 (dgs_map h) hne (by simp; omega)
    refine ⟨_, this, ?_⟩
    rw [map_back]
    have hv := Dc.canS_nv false (0 :: D) 0 (dg0 h) (Nat.zero_le _)
    rw [dval0] at hv
    simpa using hv
theorem ix_none : ∀ (l : List Int), (∀ c ∈ l, c ≠ 46) → Dc.ix l = -1
  | [], h => rfl
  | c :: l, h => by
    rw [Dc.ix, if_neg (h c (by simp)), ix_none l (fun d hd => h d (by simp [hd])), if_pos rfl]
theorem dc_ix {neg : Bool} {D : List Int} (h : Dc.Dg D) : Dc.ix (dcT neg D) = -1 := by
  refine ix_none _ (fun c hc => ?_)
  unfold dcT at hc
  rcases List.mem_append.1 hc with q | q
  · cases neg <;> simp at q
    omega
  · obtain ⟨d, hd, rfl⟩ := List.mem_map.1 q
    have := h d hd
    omega
theorem col_id : ∀ (l out : List Int), (∀ c ∈ l, Ch.isWhite c = false) → Ch.col l out false = out ++ l
  | [], out, h => by simp [Ch.col]
  | c :: l, out, h => by
    rw [Ch.col, if_neg (by rw [h c (by simp)]; simp), if_neg (by simp), col_id l _ (fun d hd => h d (by simp [hd]))]
    simp
theorem dc_byte {neg : Bool} {D : List Int} (h : Dc.Dg D) : ∀ c ∈ dcT neg D, (48 ≤ c ∧ c ≤ 57) ∨ c = 45 := fun c hc => by
  unfold dcT at hc
  rcases List.mem_append.1 hc with q | q
  · cases neg <;> simp at q
    exact .inr q
  · obtain ⟨d, hd, rfl⟩ := List.mem_map.1 q
    have := h d hd
    left
    omega
theorem dc_spc {neg : Bool} {D : List Int} (h : Dc.Dg D) : Ch.spc (Dc.sb (dcT neg D)) 3 = Dc.sb (dcT neg D) := by
  have hb := dc_byte (neg := neg) h
  have e1 : Ch.bl (Dc.sb (dcT neg D)) = dcT neg D := Dc.bl_sb (fun d hd => by have := hb d hd; omega)
  unfold Ch.spc
  rw [if_neg (by omega), if_pos rfl, e1, col_id _ _ (fun c hc => ?_)]
  · rfl
  · have := hb c hc
    unfold Ch.isWhite
    rw [Bool.eq_false_iff]
    simp
    omega
/-- What Parse says of such a text. -/
theorem parseD {neg : Bool} {D : List Int} (k : Int) (w : World) (hk0 : 10 ≤ k) (hk1 : k ≤ 23) (h : Dc.Dg D) (hn : D ≠ []) (hl : D.length ≤ 20) (hw : Lw w) (hk : k ≠ 10) :
    Calls Tryz.prog 21 #[.int .i64 k, .string (Dc.sb (dcT neg D))] w fun e w' => ∃ v p tx ng sl sc m q, v = vlV p tx ng sl sc m q ∧ e = .returned (.tuple #[v, .int .i64 (if wiB k (if neg = true then -(Dc.dval D) else Dc.dval D) = true then 0 else 2)]) ∧ (∃ a b c, sl = .slice a b c) ∧ Below w.heap.size w w' := by
  obtain ⟨n, hp, hv⟩ := dc_par (neg := neg) h hn hl
  have hb := dc_byte (neg := neg) h
  have e1 : Dc.bl (Dc.sb (dcT neg D)) = dcT neg D := Dc.bl_sb (fun d hd => by have := hb d hd; omega)
  have hsz : (Dc.sb (dcT neg D)).size ≤ 100000 := by
    rw [sb_size]
    unfold dcT
    cases neg <;> simp <;> omega
  have hr := parseN (n := n) k (Dc.sb (dcT neg D)) w hk0 hk1 hsz (by rw [dc_spc h]; exact hsz) hw (by rw [dc_spc h, e1]; exact hp)
  rw [dc_spc h, e1] at hr
  have hc : cntB k (dcT neg D) n = wiB k (if neg = true then -(Dc.dval D) else Dc.dval D) := by
    unfold cntB
    rw [if_neg hk, if_pos (dc_ix h), hv]
  rw [hc] at hr
  refine hr.mono ?_
  rintro e w' ⟨hbel, h1, h2⟩
  cases hwi : wiB k (if neg = true then -(Dc.dval D) else Dc.dval D) with
  | true =>
    obtain ⟨p, tx, ng, sl, l, sc, m, q, rfl, hbt, _⟩ := h1 hwi
    obtain ⟨a, c, rfl, _⟩ := hbt.form
    exact ⟨_, p, tx, ng, .slice a l.length c, sc, m, q, rfl, by simp, ⟨_, _, _, rfl⟩, hbel⟩
  | false =>
    exact ⟨_, 0, ⟨#[]⟩, false, .slice none 0 0, 0, z0, sp0, rfl, by rw [h2 hwi]; simp, ⟨_, _, _, rfl⟩, hbel⟩
end Go.Proofs.YtgaegajcejpmdaaGreatDoor
