/- The contract of put: a letter's bytes behind those that came out. -/
import Derived.Test.YtjcgnbmpnaapdaaDoorSc5
import Derived.Deep.RegionLaw
import Derived.Deep.AppendLies
namespace Go.Proofs.YtjcgnbmpnaapdaaDoor
open Go.RowKit
set_option linter.unusedVariables false

theorem enc_len (r : Int) : ((enc r).length : Int) = wid r := by
  rcases wid_cases r with h | h | h | h | h
  · rw [enc0 h, h]; rfl
  · rw [enc1 h, h]; rfl
  · rw [enc2 h, h]; rfl
  · rw [enc3 h, h]; rfl
  · rw [enc4 h, h]; rfl
theorem char_wid {r : Int} (h : isChar r = true) : 1 ≤ (enc r).length ∧ (enc r).length ≤ 4 := by
  have hl := enc_len r
  have hw := wid_rng r
  have hc := wid_cases r
  unfold isChar at h
  simp at h
  omega
theorem encode_some (r : Int) (w : World) (h : isChar r = true) : Calls Tryd.prog 64 #[.int .i32 r] w fun e w' =>
    ∃ b o, e = .returned (.slice (some ⟨b, o, none⟩) (enc r).length (enc r).length) ∧ Bts w' (some ⟨b, o, none⟩) (enc r) ∧ Below w.heap.size w w' := by
  refine (encode_any r w).mono ?_
  rintro e w' ⟨a, rfl, hb, hbl, hn⟩
  have hl := char_wid h
  rcases hb.2 with h0 | ⟨b, o, rfl, _⟩
  · rw [h0] at hl; simp at hl
  · exact ⟨b, o, rfl, hb, hbl⟩
theorem news_at {w : World} {b o : Nat} {l : List Int} (h : Bts w (some ⟨b, o, none⟩) l) :
    ∀ j u, (l.map (Value.int .u8))[j]? = some u → w.cell? ((⟨b, o, none⟩ : Addr).add j) = some u := by
  intro j u hj
  rw [List.getElem?_map] at hj
  have hjl : j < l.length := by
    rcases Nat.lt_or_ge j l.length with h | h
    · exact h
    · rw [List.getElem?_eq_none h] at hj; simp at hj
  rcases h.2 with rfl | ⟨b', o', he, hc⟩
  · simp at hjl
  · simp at he
    obtain ⟨rfl, rfl⟩ := he
    rw [addr_add, hc j hjl]
    rw [List.getElem?_eq_getElem hjl] at hj
    simp at hj
    rw [← hj]
    simp [List.getD_eq_getElem?_getD, hjl]
theorem u8_cells {l : List Int} : ∀ u ∈ l.map (Value.int .u8), u.oneCell' = true := by
  intro u hu
  obtain ⟨a, _, rfl⟩ := List.mem_map.1 hu
  rfl

/-- The bytes that came out so far: a row of its own. -/
abbrev OR (B : Nat) (w : World) (ov : Value) (out : Bs) : Prop := w.ownsRow B 5 1 ov out.length (out.map (Value.int .u8))

theorem blk_cell {W w2 : World} {a : Addr} {v : Value} (hb : Below W.heap.size W w2) (h : W.cell? a = some v) : w2.cell? a = some v := (hb.cell (World.block_lt_of_cell? W a h)).trans h
theorem blk_froz {W w2 : World} {a : Addr} {v : Value} (hb : Below W.heap.size W w2) (h : W.cell? a = some v) (hf : W.frozen? a = false) : w2.frozen? a = false := (hb.frozen (World.block_lt_of_cell? W a h)).trans hf
theorem blk_own {W w2 : World} {b n size : Nat} {e : TypeId} {v : Value} {x : List Value} (hb : Below W.heap.size W w2) (h : W.ownsRow b e size v n x) : w2.ownsRow b e size v n x := by
  refine h.kept (grownBy_of_below hb none) ?_
  rcases h.2 with ⟨rfl, _⟩ | ⟨g1, c1, cur1, rfl, _⟩
  · exact .inl rfl
  · exact .inr (by simp [Value.ownBlock])
theorem far_cell {w w' : World} {row : Option Nat} {a : Addr} {v : Value} (hg : w.grownBy w' row) (h : w.cell? a = some v) (hne : row ≠ some a.block) : w'.cell? a = some v :=
  (hg.cell_far a (World.block_lt_of_cell? w a h) (fun e => hne e.symm)).trans h
theorem far_froz {w w' : World} {row : Option Nat} {a : Addr} {v : Value} (hg : w.grownBy w' row) (h : w.cell? a = some v) (hf : w.frozen? a = false) (hne : row ≠ some a.block) : w'.frozen? a = false :=
  (hg.frozen_far a (World.block_lt_of_cell? w a h) (fun e => hne e.symm)).trans hf
theorem info5p : ∃ i, Tryd.prog.info? 5 = some i ∧ i.zero = some (.int .u8 0) ∧ i.size = 1 ∧ i.bytes = 1 := by
  have := info5
  cases h : Tryd.prog.info? 5 with
  | none => rw [h] at this; simp at this
  | some i => rw [h] at this; simp at this; exact ⟨i, rfl, this.1, this.2.1, this.2.2⟩

/-- What put leaves. -/
def PutW (B O f : Nat) (ov : Value) (out : Bs) (w w' : World) : Prop := ∃ ov' w3 m, w.grownBy w3 ov.ownBlock ∧ OR B w3 ov' out ∧ ov' ≠ .slice none 0 0 ∧ (∀ k, ov'.ownBlock = some k → ov.ownBlock = some k ∨ w.heap.size ≤ k) ∧ w' = (w3.setCell ⟨O, f + 2, none⟩ ov').drewN m

def putE (T at0 : Int) (out : Bs) (r : Int) : Ending := if T < ((out ++ enc r).length : Int) then .panicked (flt at0 3) else .returned (.tuple #[])
theorem putE_bad {T at0 : Int} {out : Bs} {r : Int} (h : T < (out.length : Int) + ((enc r).length : Int)) : putE T at0 out r = .panicked (flt at0 3) := by
  unfold putE; rw [if_pos (by simp; exact h)]
theorem putE_ok {T at0 : Int} {out : Bs} {r : Int} (h : ¬ T < (out.length : Int) + ((enc r).length : Int)) : putE T at0 out r = .returned (.tuple #[]) := by
  unfold putE; rw [if_neg (by simp; omega)]
set_option maxRecDepth 20000 in
set_option maxHeartbeats 1600000 in
theorem put_any {B P O f : Nat} {T at0 r : Int} {ov : Value} {out : Bs} {w : World} (hc : w.cell? ⟨O, f + 2, none⟩ = some ov) (hf : w.frozen? ⟨O, f + 2, none⟩ = false) (ha : w.cell? ⟨O, f + 1, none⟩ = some (.int .i64 at0))
    (ht : w.cell? ⟨P, 6, none⟩ = some (.int .i64 T)) (hown : OR B w ov out) (hB : B ≤ w.heap.size) (hl : out.length ≤ 65536) (hO : ov.ownBlock ≠ some O) (hP : ov.ownBlock ≠ some P) (hr : isChar r = true) (hd : ¬ (O = P ∧ f + 2 = 6)) :
    Calls Tryd.prog 44 #[pp P, .pointer (some ⟨O, f, none⟩), .int .i32 r] w fun e w' => e = putE T at0 out r ∧ PutW B O f ov (out ++ enc r) w w' := by
  obtain ⟨i0, hi, hz0, hz1, hz2⟩ := info5p
  have hR : Hid (isChar r = true) := hr
  obtain ⟨he1, he4⟩ := char_wid hr
  clear hr
  go_enter Tryd.func44, Tryd.ntmps44
  go_wp2_with fail
  go_region_law (first
    | (refine step_append_lies _ rfl (.tmp 10) (.tmp 12) 25 rfl B 5 i0 (.int .u8 0) 1 1 Tryd.underlying25 hi hz0 hz1 hz2 rfl (by decide) ov out.length (out.map (Value.int .u8)) (by simp [Act.eval]) hown2 ⟨b2, o2, none⟩ (enc r).length (enc r).length ((enc r).map (Value.int .u8)) (by simp [Act.eval]) (by simp) (news_at hbt2) u8_cells (by omega) (by unfold maxLen; omega) (by omega) hB2 _ rfl ?_
       intro g cap w3 hown3 hg3 hat hlt
       have HOW : Hid _ := hown3
       have hc3 := far_cell hg3 hc2 hO
       have hf3 := far_froz hg3 hc2 hf2 hO)
    | (go_simp; go_at_call 64; refine (encode_some r _ hR.out).mono ?_; rintro e w2 ⟨b2, o2, rfl, hbt2, hbl2⟩; have hc2 := blk_cell hbl2 (show _ = some ov from hc); have hf2 := blk_froz hbl2 (show _ = some ov from hc) (show _ = false from hf); have hown2 := blk_own hbl2 (show World.ownsRow _ B 5 1 ov out.length (out.map (Value.int .u8)) from hown); have hB2 : B ≤ w2.heap.size := Nat.le_trans hB hbl2.size; dsimp only))
  all_goals
    have ht2 := blk_cell hbl2 (show _ = some (Value.int .i64 T) from ht)
    have ha2 := blk_cell hbl2 (show _ = some (Value.int .i64 at0) from ha)
    have ht3 := far_cell hg3 ht2 hP
    have ha3 := far_cell hg3 ha2 hO
    have hgw : w.grownBy w3 ov.ownBlock := grownBy_trans (grownBy_trans (grownBy_drewN w 1 _) (grownBy_of_below hbl2 _)) hg3
    have HO4 : Hid (∃ ov', ov' = Value.slice (some ⟨g, 0, none⟩) (out.length + (enc r).length) cap) := ⟨_, rfl⟩
    obtain ⟨ov', hov⟩ := HO4.out
    have hnn : ov' ≠ .slice none 0 0 := by rw [hov]; simp
    have hnb : ∀ k, ov'.ownBlock = some k → ov.ownBlock = some k ∨ w.heap.size ≤ k := by
      rw [hov]
      intro k hk
      simp [Value.ownBlock] at hk
      subst hk
      rcases hat with e | e
      · exact .inl e
      · right
        rw [e]
        exact hbl2.size
    rw [← hov] at HOW
    have hO4 : (w3.setCell ⟨O, f + 2, none⟩ ov').cell? ⟨O, f + 2, none⟩ = some ov' := World.cell?_setCell_same _ _ _ hc3
    have ht4 : (w3.setCell ⟨O, f + 2, none⟩ ov').cell? ⟨P, 6, none⟩ = some (.int .i64 T) := by
      rw [World.cell?_setCell_other]
      · exact ht3
      · intro e; simp at e; exact hd ⟨e.1, by omega⟩
    have ha4 : (w3.setCell ⟨O, f + 2, none⟩ ov').cell? ⟨O, f + 1, none⟩ = some (.int .i64 at0) := by
      rw [World.cell?_setCell_other]
      · exact ha3
      · intro e; simp at e
    have HW : Hid (∀ m, PutW B O f ov (out ++ enc r) w ((w3.setCell ⟨O, f + 2, none⟩ ov').drewN m)) := fun m => ⟨ov', w3, m, hgw, by have := HOW.out; unfold OR; rw [List.map_append, List.length_append]; exact this, hnn, hnb, rfl⟩
    rw [hov] at hO4 ht4 ha4 HW
    generalize w3.setCell ⟨O, f + 2, none⟩ (Value.slice (some ⟨g, 0, none⟩) (out.length + (enc r).length) cap) = w4 at *
    clear hc hf ha ht hown hO hP hd hc2 hf2 hown2 hg3 hat hlt hc3 hf3 ht2 ha2 ht3 ha3 hgw hbt2 hbl2 HOW hnn hnb hov HO4
    go_wp2
    go_quiet (fail)
    go_wp2_with (first | (go_at_call 35; refine (many_any _ _ _).mono ?_; rintro e w' ⟨rfl, rfl⟩))
    · exact ⟨rfl, (putE_bad ‹_›).symm, HW.out _⟩
    · go_end0
      exact ⟨(putE_ok (by omega)).symm, HW.out _⟩
end Go.Proofs.YtjcgnbmpnaapdaaDoor
