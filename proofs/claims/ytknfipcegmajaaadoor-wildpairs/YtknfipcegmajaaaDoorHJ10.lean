/- Joined: HChIdx, HChStr. -/
import Derived.Test.YtknfipcegmajaaaDoorHJ9
import Derived.Lib.Bytealg
namespace Go.Proofs.YtknfipcegmajaaaDoor.Ch
open Go.RowKit
set_option linter.unusedVariables false

/-- Where the first colon stands; -1: nowhere. -/
def ix : List Int → Int
  | [] => -1
  | b :: l => if b = 58 then 0 else if ix l = -1 then -1 else ix l + 1
theorem ix_lib (l : List UInt8) : Lib.indexByte l 58 = ix (l.map fun c => (c.toNat : Int)) := by
  induction l with
  | nil => rfl
  | cons b l ih =>
    simp only [Lib.indexByte, List.map_cons, ix, ih]
    have e : (b == 58) = decide ((b.toNat : Int) = 58) := by
      rw [Bool.eq_iff_iff]; simp
      constructor
      · rintro rfl; rfl
      · intro h; exact UInt8.toNat_inj.1 (by simpa using (by omega : b.toNat = 58))
    rw [e]
    simp
theorem ix_bd (l : List Int) : ix l = -1 ∨ (0 ≤ ix l ∧ ix l < l.length) := by
  induction l with
  | nil => simp [ix]
  | cons b l ih =>
    have : ((b :: l).length : Int) = l.length + 1 := by simp
    rw [this]
    simp only [ix]
    by_cases h1 : b = 58
    · rw [if_pos h1]; omega
    · rw [if_neg h1]
      by_cases h2 : ix l = -1
      · rw [if_pos h2]; omega
      · rw [if_neg h2]; omega
theorem colon_run (s : ByteArray) (c : Int) (w : World) : (callFunc 88 #[.string s, .int .u8 c]).run Tryd.prog w = .ok (.value (.int .i64 (Lib.indexByte s.data.toList c.toNat.toUInt8))) w := by
  rw [run_callFunc_extern Tryd.func88 (by kernel_rfl) (by kernel_rfl) (by kernel_rfl) (e := Extern.BytealgIndexByte.indexByte) (by kernel_rfl), Lib.run_indexByteString]
  rfl

set_option maxHeartbeats 400000 in
theorem index_any (s : ByteArray) (w : World) :
    Calls Tryd.prog 76 #[.string s, .string ⟨#[58]⟩] w fun e w' => e = .returned (.int .i64 (ix (bl s))) ∧ w' = w := by
  have hr := colon_run s
  go_enter Tryd.func76, Tryd.ntmps76
  go_wp2
  · go_ret
    refine ⟨ret_int ?_, rfl⟩
    have h : s.toList = [58] := (beq_iff_eq.1 ‹_›).symm
    have : bl s = [58] := by unfold bl; rw [← Lib.toList_data, h]; rfl
    rw [this]; rfl
  · go_ret
    refine ⟨ret_int ?_, rfl⟩
    exact ix_lib s.data.toList

def ncB (l : List Int) : Bool := nameB l && !decide (0 ≤ ix l)
def qn (s : ByteArray) : ByteArray × ByteArray × Bool :=
  if ix (bl s) = -1 then (if ncB (bl s) = true then (⟨#[]⟩, s, true) else (⟨#[]⟩, ⟨#[]⟩, false))
  else if ncB (bl (s.extract 0 (ix (bl s)).toNat)) = true ∧ ncB (bl (s.extract ((ix (bl s)).toNat + 1) s.size)) = true then (s.extract 0 (ix (bl s)).toNat, s.extract ((ix (bl s)).toNat + 1) s.size, true)
  else (⟨#[]⟩, ⟨#[]⟩, false)
theorem ret_ssb {a b a' b' : ByteArray} {c : Bool} {p : ByteArray × ByteArray × Bool} (h : p = (a, b, c)) : Ending.returned (.tuple #[.string a, .string b, .bool c]) = .returned (.tuple #[.string p.1, .string p.2.1, .bool p.2.2]) := by rw [h]

end Go.Proofs.YtknfipcegmajaaaDoor.Ch
namespace Go.Proofs.YtknfipcegmajaaaDoor.Ch
open Go.RowKit
set_option linter.unusedVariables false

def sb (l : List Int) : ByteArray := ⟨(l.map fun n => UInt8.ofNat n.toNat).toArray⟩
theorem push_fold (l : List Int) (s : ByteArray) : l.foldl (fun r n => r.push (UInt8.ofNat n.toNat)) s = ⟨s.data ++ (l.map fun n => UInt8.ofNat n.toNat).toArray⟩ := by
  induction l generalizing s with
  | nil => simp
  | cons a l ih =>
    rw [List.foldl_cons, ih]
    simp [ByteArray.push]
theorem bl_sb (l : List Int) (h : ∀ i, 0 ≤ l.getD i 0 ∧ l.getD i 0 < 256) : bl (sb l) = l := by
  unfold bl sb
  rw [List.map_map]
  refine List.ext_getElem (by simp) fun i h1 h2 => ?_
  have := h i
  rw [List.getD_eq_getElem?_getD, List.getElem?_eq_getElem h2] at this
  simp at this ⊢
  omega
theorem sb_bl (s : ByteArray) : sb (bl s) = s := by
  unfold bl sb
  rw [List.map_map]
  have : (fun n : Int => UInt8.ofNat n.toNat) ∘ (fun c : UInt8 => (c.toNat : Int)) = id := by
    funext c; simp
  rw [this, List.map_id]
theorem addr_add (b o j : Nat) : (⟨b, o, none⟩ : Addr).add j = ⟨b, o + j, none⟩ := by
  by_cases h : j = 0 <;> simp [Addr.add, h]
theorem conv_string (b o cap : Nat) (l : List Int) (w : World) (h : ∀ i, i < l.length → w.cell? ⟨b, o + i, none⟩ = some (.int .u8 (l.getD i 0))) :
    (convert 47 9 (.slice (some ⟨b, o, none⟩) l.length cap)).run Tryd.prog w = .ok (.string (sb l)) w := by
  rw [run_convert_bytes_string w 47 9 5 _ _ _ Tryd.underlying47 Tryd.underlying5 Tryd.underlying9]
  have hl := run_loadCells_list (P := Tryd.prog) (w := w) ⟨b, o, none⟩ (l.map (Value.int .u8)) (fun j v hj => by
    rw [List.getElem?_map] at hj
    have hjl : j < l.length := by
      rcases Nat.lt_or_ge j l.length with h | h
      · exact h
      · rw [List.getElem?_eq_none h] at hj; simp at hj
    have := h j hjl
    rw [List.getD_eq_getElem?_getD, List.getElem?_eq_getElem hjl] at this
    rw [List.getElem?_eq_getElem hjl] at hj
    simp at hj
    rw [← hj]
    rw [addr_add]
    simpa using this)
  rw [List.length_map] at hl
  rw [run_bytesToString w ⟨b, o, none⟩ l.length cap l hl, push_fold]
  have e : ByteArray.empty.data = #[] := rfl
  rw [e, Array.empty_append]
  rfl
theorem conv_nil (w : World) : (convert 47 9 (.slice none 0 0)).run Tryd.prog w = .ok (.string ⟨#[]⟩) w := by
  rw [run_convert_bytes_string w 47 9 5 _ _ _ Tryd.underlying47 Tryd.underlying5 Tryd.underlying9]
  rfl

def col : List Int → List Int → Bool → List Int
  | [], out, _ => out
  | c :: l, out, gap => if isWhite c = true then col l out true else if gap = true ∧ 0 < out.length then col l (out ++ [32, c]) false else col l (out ++ [c]) false
theorem drop_at (l : List Int) (k : Nat) (h : k < l.length) : l.drop k = l.getD k 0 :: l.drop (k + 1) := by
  rw [List.drop_eq_getElem_cons h]
  simp [List.getD_eq_getElem?_getD, h]

def ColRel (w : World) (S n : Nat) (l : List Int) (v g i : Value) (wr : World) : Prop :=
  ∃ (k : Nat) (out : List Int) (gap : Bool), k ≤ n ∧ i = .int .i64 k ∧ g = .bool gap ∧ v = .slice (some ⟨w.heap.size, 0, none⟩) out.length n ∧
    wr.ownsRow w.heap.size 5 1 v out.length (out.map (Value.int .u8)) ∧ Below w.heap.size w wr ∧ S < wr.heap.size ∧
    (∀ j, j < n → wr.cell? ⟨S, j, none⟩ = some (.int .u8 (l.getD j 0))) ∧ out.length + gap.toNat ≤ k ∧ (∀ j, 0 ≤ out.getD j 0 ∧ out.getD j 0 < 256) ∧ col (l.drop k) out gap = col l [] false

/-- An append to the row at block G leaves what lies below G, and the row at S. -/
theorem grow_keep {w wr w2 : World} {S n : Nat} {l : List Int} {o : Obj} (hB : Below w.heap.size w wr) (hS : S < wr.heap.size) (hlt : w.heap.size < S)
    (hc : ∀ j, j < n → wr.cell? ⟨S, j, none⟩ = some (.int .u8 (l.getD j 0))) (hg : (wr.alloc o).grownBy w2 (some w.heap.size)) :
    Below w.heap.size w w2 ∧ S < w2.heap.size ∧ ∀ j, j < n → w2.cell? ⟨S, j, none⟩ = some (.int .u8 (l.getD j 0)) := by
  have hs := hg.size
  simp at hs
  refine ⟨(hB.alloc hB.size _).grown hg (by simp; have := hB.size; omega) (fun k hk => by cases hk; exact Nat.le_refl _), by omega, fun j hj => ?_⟩
  refine hg.cell ?_ (by simp; omega)
  rw [World.cell?_alloc_past o S j hS]
  exact hc j hj
theorem getD_app {out : List Int} (h : ∀ j, 0 ≤ out.getD j 0 ∧ out.getD j 0 < 256) (c : Int) (h0 : 0 ≤ c) (h1 : c < 256) : ∀ j, 0 ≤ (out ++ [c]).getD j 0 ∧ (out ++ [c]).getD j 0 < 256 := by
  intro j
  rcases Nat.lt_trichotomy j out.length with g | g | g
  · have := h j
    rw [List.getD_eq_getElem?_getD] at this ⊢
    rw [List.getElem?_append_left g]
    exact this
  · subst g
    simp [List.getD_eq_getElem?_getD, h0, h1]
  · rw [List.getD_eq_getElem?_getD, List.getElem?_eq_none (by simp; omega)]
    simp
theorem info5 : (Tryd.prog.info? 5).map (fun i => (i.zero, i.size, i.bytes)) = some (some (.int .u8 0), 1, 1) := by kernel_rfl

set_option maxHeartbeats 400000 in
theorem collapse_any (s : ByteArray) (w : World) (hs : s.size ≤ 100000) :
    Calls Tryd.prog 42 #[.string s] w fun e w' => e = .returned (.string (sb (col (bl s) [] false))) ∧ Below w.heap.size w w' := by
  obtain ⟨i0, hi, hz0, hz1, hz2⟩ := info_parts info5
  obtain ⟨w0, hmk, hown0, hg0⟩ := run_make_own (P := Tryd.prog) w w.heap.size 47 5 i0 (.int .u8 0) 1 Tryd.underlying47 hi hz0 hz1 .i64 .i64 s.size (by rw [hz2]; omega) (by unfold maxLen; omega) (Nat.le_refl _)
  obtain ⟨cap, w1, hc, hcm, hrun, hbel, hsz, hb⟩ := conv_bytes s w0 (by unfold maxLen; omega)
  have hlt0 := (hown0.lt w.heap.size rfl).2
  have hstart : ColRel w w0.heap.size s.size (bl s) (.slice (some ⟨w.heap.size, 0, none⟩) 0 s.size) (.bool false) (.int .i64 0) w1 := by
    refine ⟨0, [], false, Nat.zero_le _, rfl, rfl, rfl, ?_, ?_, hsz, ?_, by simp, by simp, by simp⟩
    · exact hown0.kept (row := none) ⟨hbel.os, hbel.tape, hbel.output, hbel.size, fun k hk _ => hbel.block k hk⟩ (.inr (by simp [Value.ownBlock]))
    · exact ((Below.refl _ _).grown hg0 (Nat.le_refl _) (by simp)).trans (hbel.mono hg0.size)
    · rcases hb.2 with h | ⟨b', o', he, hcell⟩
      · intro j hj; rw [← bl_len, h] at hj; simp at hj
      · simp at he
        obtain ⟨rfl, rfl⟩ := he
        intro j hj
        simpa using hcell j (by rw [bl_len]; exact hj)
  have HS : Hid _ := hstart
  have hbd := bl_bd s
  have HL : Hid _ := bl_len s
  clear hstart hown0 hg0 hbel hb hc hcm
  generalize hS : w0.heap.size = S at *
  clear hS
  generalize bl s = l at *
  go_enter Tryd.func42, Tryd.ntmps42
  go_wp2
  go_loopw [3, 4, 13] (fun v g i wr => ColRel w S s.size l v g i wr) (fun _ _ i _ => s.size - (intOf i).toNat)
  case atStart => exact HS.out
  case round =>
    obtain ⟨k, out, gap, hk, rfl, rfl, rfl, hown, hbel, hSz, hcell, hlen, hob, hcol⟩ := hrel
    have HC : Hid _ := hcol
    have HB : Hid _ := hbel
    clear hcol hbel HS hrun hmk
    by_cases hlt : k < s.size
    · have hck := hcell k hlt
      have hb1 := (hbd k).1
      have hb2 := (hbd k).2
      have hdk : Hid _ := drop_at l k (by rw [HL.out]; exact hlt)
      have HCl : Hid _ := hcell
      have HOb : Hid _ := hob
      clear hcell hob hbd
      generalize l.getD k 0 = c at *
      by_cases hw : isWhite c = true
      · have hcl : Hid (col (c :: l.drop (k + 1)) out gap = col (l.drop (k + 1)) out true) := by show _ = _; rw [col, if_pos hw]
        go_wp2_with (go_at_call 51; refine (white_any _ _).mono ?_; rintro e w' ⟨rfl, rfl⟩)
        go_roundw
        case rel =>
          refine ⟨k + 1, out, true, by omega, by go_num, rfl, rfl, hown, HB.out, hSz, HCl.out, ?_, HOb.out, ?_⟩
          · simp; omega
          · rw [← HC.out, hdk.out, hcl.out]
        case measure => simp [intOf]; omega
      · have hw' : isWhite c = false := by simpa using hw
        have hkz : out.length < s.size := by omega
        clear hw
        by_cases hg : gap = true ∧ 0 < out.length
        · obtain ⟨rfl, hpos⟩ := hg
          have hcl : Hid (col (c :: l.drop (k + 1)) out true = col (l.drop (k + 1)) (out ++ [32, c]) false) := by show _ = _; rw [col, if_neg (by simp [hw']), if_pos ⟨rfl, hpos⟩]
          have hlen' : out.length + 1 < s.size := by simp at hlen; omega
          go_wp2_with (first | (go_at_call 51; refine (white_any _ _).mono ?_; rintro e w' ⟨rfl, rfl⟩) | (at_builtin; refine wpList_append_fits _ rfl (.tmp 26) (.tmp 27) 47 rfl w.heap.size 5 i0 1 Tryd.underlying47 hi hz1 w.heap.size out.length s.size _ rfl (hown.alloc _) ⟨_, 0, none⟩ 1 1 [.int .u8 32] rfl rfl (cell_one_new _ _ _) (by intro u hu; simp at hu; subst hu; rfl) (by omega) ?_; intro w2 hown2 hgrow2) | (at_builtin; refine wpList_append_fits _ rfl (.tmp 29) (.tmp 31) 47 rfl w.heap.size 5 i0 1 Tryd.underlying47 hi hz1 w.heap.size (out.length + 1) s.size _ rfl (hown2.alloc _) ⟨_, 0, none⟩ 1 1 [.int .u8 c] rfl rfl (cell_one_new _ _ _) (by intro u hu; simp at hu; subst hu; rfl) (by omega) ?_; intro w3 hown3 hgrow3))
          go_roundw
          case rel =>
            obtain ⟨b2, s2, c2⟩ := grow_keep HB.out hSz hlt0 HCl.out hgrow2
            obtain ⟨b3, s3, c3⟩ := grow_keep b2 s2 hlt0 c2 hgrow3
            refine ⟨k + 1, out ++ [32, c], false, by omega, by go_num, rfl, by simp, by simpa using hown3, b3, s3, c3, ?_, ?_, ?_⟩
            · simp at hlen ⊢; omega
            · have := getD_app (getD_app HOb.out 32 (by omega) (by omega)) c hb1 hb2
              simpa using this
            · rw [← HC.out, hdk.out, hcl.out]
          case measure => simp [intOf]; omega
        · have hcl : Hid (col (c :: l.drop (k + 1)) out gap = col (l.drop (k + 1)) (out ++ [c]) false) := by show _ = _; rw [col, if_neg (by simp [hw']), if_neg hg]
          cases gap
          · go_wp2_with (first | (go_at_call 51; refine (white_any _ _).mono ?_; rintro e w' ⟨rfl, rfl⟩) | (at_builtin; refine wpList_append_fits _ rfl (.tmp 29) (.tmp 31) 47 rfl w.heap.size 5 i0 1 Tryd.underlying47 hi hz1 w.heap.size out.length s.size _ rfl (hown.alloc _) ⟨_, 0, none⟩ 1 1 [.int .u8 c] rfl rfl (cell_one_new _ _ _) (by intro u hu; simp at hu; subst hu; rfl) (by omega) ?_; intro w2 hown2 hgrow2))
            go_roundw
            case rel =>
              obtain ⟨b2, s2, c2⟩ := grow_keep HB.out hSz hlt0 HCl.out hgrow2
              refine ⟨k + 1, out ++ [c], false, by omega, by go_num, rfl, by simp, by simpa using hown2, b2, s2, c2, ?_, getD_app HOb.out c hb1 hb2, ?_⟩
              · simp at hlen ⊢; omega
              · rw [← HC.out, hdk.out, hcl.out]
            case measure => simp [intOf]; omega
          · have h0 : ¬ (0 < out.length) := fun h => hg ⟨rfl, h⟩
            clear hg
            go_wp2_with (first | (go_at_call 51; refine (white_any _ _).mono ?_; rintro e w' ⟨rfl, rfl⟩) | (at_builtin; refine wpList_append_fits _ rfl (.tmp 29) (.tmp 31) 47 rfl w.heap.size 5 i0 1 Tryd.underlying47 hi hz1 w.heap.size out.length s.size _ rfl (hown.alloc _) ⟨_, 0, none⟩ 1 1 [.int .u8 c] rfl rfl (cell_one_new _ _ _) (by intro u hu; simp at hu; subst hu; rfl) (by omega) ?_; intro w2 hown2 hgrow2))
            go_roundw
            case rel =>
              obtain ⟨b2, s2, c2⟩ := grow_keep HB.out hSz hlt0 HCl.out hgrow2
              refine ⟨k + 1, out ++ [c], false, by omega, by go_num, rfl, by simp, by simpa using hown2, b2, s2, c2, ?_, getD_app HOb.out c hb1 hb2, ?_⟩
              · simp at hlen ⊢; omega
              · rw [← HC.out, hdk.out, hcl.out]
            case measure => simp [intOf]; omega
    · have hcv := conv_string w.heap.size 0 s.size out wr (fun j hj => by
        have := hown.cells (g := w.heap.size) rfl j (.int .u8 (out.getD j 0)) (by simp [List.getD_eq_getElem?_getD, hj])
        rw [addr_add] at this
        exact this)
      have he : Hid (col (l.drop k) out gap = out) := by show _ = _; rw [List.drop_eq_nil_of_le (by rw [HL.out]; omega)]; rfl
      clear hbd hcell hob
      go_wp2
      go_ret
      refine ⟨?_, HB.out⟩
      rw [← HC.out, he.out]
      rfl
end Go.Proofs.YtknfipcegmajaaaDoor.Ch
