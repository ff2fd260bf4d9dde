/- Parse. -/
import Derived.Test.YthlkbijpphdblaaZ34
import Derived.Laws.BytesString
namespace Go.Proofs.Ythlkbijpphdblaa
open Go.RowKit
set_option linter.unusedVariables false

def bl (s : ByteArray) : Bs := s.data.toList.map fun c => (c.toNat : Int)
theorem bl_len (s : ByteArray) : (bl s).length = s.size := by unfold bl; rw [List.length_map, Array.length_toList]; rfl
theorem bl_bd (s : ByteArray) (i : Nat) : 0 ≤ (bl s).getD i 0 ∧ (bl s).getD i 0 < 256 := by
  unfold bl
  rw [List.getD_eq_getElem?_getD, List.getElem?_map]
  cases s.data.toList[i]? with
  | none => simp
  | some c => simp; have := c.toNat_lt; omega
theorem conv_bytes (s : ByteArray) (w : World) (hs : s.size ≤ maxLen) : ∃ cap w1, s.size ≤ cap ∧ cap ≤ maxLen ∧
    (convert 9 42 (.string s)).run Try.prog w = .ok (.slice (some ⟨w.heap.size, 0, none⟩) s.size cap) w1 ∧ Below w.heap.size w w1 ∧ w.heap.size < w1.heap.size ∧
    ∀ i, i < (bl s).length → w1.cell? ⟨w.heap.size, i, none⟩ = some (.int .u8 ((bl s).getD i 0)) := by
  refine ⟨grownCap w s.size 0 5, _, grownCap_ge _ _ _ _, grownCap_le_maxLen _ _ _ _ hs, run_bytes_of_string w 9 42 5 s Try.underlying9 Try.underlying42 Try.underlying5, ?_, ?_, fun i hi => ?_⟩
  · exact (Below.refl _ _).drew.alloc (Nat.le_refl _) _
  · simp
  · rw [bl_len] at hi
    have h := World.cell?_alloc_mark w.drew (bytesRow s (grownCap w s.size 0 5)) 5 ((bytesRow s (grownCap w s.size 0 5)).size, (bytesRow s (grownCap w s.size 0 5)).size + 1) i
    refine h.trans ?_
    rw [bytesRow_at s _ i hi]
    simp [bl, List.getD_eq_getElem?_getD, hi]
theorem put5_bel (W : World) (X : Nat) (c0 c1 c2 c3 c4 : Value) : Below X W (put5 W X c0 c1 c2 c3 c4) := (((((Below.refl X W).setCell (p := ⟨X, 0, none⟩) (Nat.le_refl _) _).setCell (p := ⟨X, 1, none⟩) (Nat.le_refl _) _).setCell (p := ⟨X, 2, none⟩) (Nat.le_refl _) _).setCell (p := ⟨X, 3, none⟩) (Nat.le_refl _) _).setCell (p := ⟨X, 4, none⟩) (Nat.le_refl _) _
/-- What Parse answers. -/
def parS (l : Bs) : R Nd := if 4096 < l.length then .bad 0 3 else whS l
def PaQ (w : World) (X : R Nd) (e : Ending) (w' : World) : Prop := match X with
  | .ok n _ => ∃ (q0 : Int) (s0 : Option Addr) (s1 s2 : Nat) (q2 q3 : Int) (t0 : Option Addr) (t1 t2 : Nat), e = .returned (.tuple #[.agg #[.int .i64 q0, .slice s0 s1 s2, .int .i64 q2, .int .i64 q3, .slice t0 t1 t2], .int .i64 0, .int .i64 0]) ∧ NdV (Nw w w') w' n [.int .i64 q0, .slice s0 s1 s2, .int .i64 q2, .int .i64 q3, .slice t0 t1 t2] ∧ Below w.heap.size w w'
  | .bad p er => e = .returned (.tuple #[.agg zN, .int .i64 p, .int .i64 er]) ∧ Below w.heap.size w w'
set_option maxRecDepth 4000 in
set_option maxHeartbeats 4000000 in
theorem parse_p (s : ByteArray) (w : World) : Calls Try.prog 6 #[.string s] w fun e w' => PaQ w (parS (bl s)) e w' := by
  have x0 := nw_heap w (.cells zN 27)
  have b0 : Below w.heap.size w (w.alloc (.cells zN 27)) := (Below.refl _ _).alloc (Nat.le_refl _) _
  have z0 := sza w (.cells zN 27)
  unfold parS
  rw [bl_len]
  by_cases hl : 4096 < s.size
  · rw [if_pos hl]
    have hd : decide ((4096 : Int) < (s.size : Int)) = true := by simp; omega
    clear x0 z0
    go_enter Try.func6, Try.ntmps6
    go_wp2_with fail
    have k5 := cells5 (nw_heap w (.cells zN 27))
    obtain ⟨⟨k0, k1, k2, k3, k4⟩, _⟩ := k5
    refine bodyPost_ret (v := .tuple #[.agg zN, .int .i64 0, .int .i64 3]) (by simp [results, Try.results6, go_sem]) rfl ⟨rfl, b0⟩
  · rw [if_neg hl]
    have hd : decide ((4096 : Int) < (s.size : Int)) = false := by simp; omega
    obtain ⟨cap, w1, hc, hm, hrun, hb1, hsz, hcell⟩ := conv_bytes s (w.alloc (.cells zN 27)) (by unfold maxLen; omega)
    rw [z0] at hrun hsz hcell
    have b2 : Below w1.heap.size w1 (w1.alloc (.cells #[.slice (some ⟨w.heap.size + 1, 0, none⟩) s.size cap, .int .i64 0, .int .i64 0] 53)) := (Below.refl _ _).alloc (Nat.le_refl _) _
    have hIn : In w1.heap.size (w1.alloc (.cells #[.slice (some ⟨w.heap.size + 1, 0, none⟩) s.size cap, .int .i64 0, .int .i64 0] 53)) (.slice (some ⟨w.heap.size + 1, 0, none⟩) s.size cap) (bl s) 0 0 := by
      refine ⟨nw_heap w1 _, ⟨bl_bd s, _, cap, by rw [bl_len], by rw [bl_len]; exact hc, hm, .inr ⟨w.heap.size + 1, rfl, hsz, fun i hi => ?_⟩⟩, by omega, by rw [bl_len]; omega, by omega⟩
      exact (b2.cell (p := ⟨w.heap.size + 1, i, none⟩) hsz).trans (hcell i hi)
    have hb01 := b0.trans (hb1.mono b0.size)
    have hb02 := hb01.trans (b2.mono hb01.size)
    have hx2 := (b2.block _ (by omega)).trans ((hb1.block _ (by rw [z0]; omega)).trans x0)
    have q := whole_p hIn
    obtain ⟨X, hX⟩ : ∃ X, whS (bl s) = X := ⟨_, rfl⟩
    rw [hX] at q ⊢
    have z2 := sza w1 (.cells #[.slice (some ⟨w.heap.size + 1, 0, none⟩) s.size cap, .int .i64 0, .int .i64 0] 53)
    have HQ : Hid _ := And.intro q (And.intro hb02 (And.intro hx2 z2))
    have HR : Hid _ := hrun
    clear q hb02 hx2 hIn hX hb01 b2 hcell hb1 x0 b0 z2
    cases X with
    | bad p er =>
      go_enter Try.func6, Try.ntmps6
      go_wp2_with fail
      refine Calls.mono HQ.out.1 ?_
      rintro e w3 ⟨rfl, hf3⟩
      have hb3 : Below w.heap.size w w3 := HQ.out.2.1.trans (hf3.toBelow HQ.out.2.1.size (fun i hi q => by omega))
      have hx3 := hf3.at HQ.out.2.2.1 (by omega)
      have hz3 := hf3.size
      rw [HQ.out.2.2.2] at hz3
      obtain ⟨y1, y2, b4⟩ := box2' w3 (.cells zN 27) (.cells #[.int .i64 p, .int .i64 er] 55)
      have hx4 := (b4.block _ (lt_of hx3)).trans hx3
      have hb4 := hb3.trans (b4.mono hb3.size)
      have H3 : Hid _ := And.intro hx4 (And.intro hb4 (And.intro y1 y2))
      clear hf3 hb3 hx3 y1 y2 b4 hx4 hb4 HQ hrun HR
      go_upto_region 5 with fail
      obtain ⟨V, hV⟩ : ∃ V, (w3.alloc (.cells zN 27)).alloc (.cells #[.int .i64 p, .int .i64 er] 55) = V := ⟨_, rfl⟩
      rw [hV] at H3 ⊢
      clear hV
      obtain ⟨⟨d0, d1, d2, d3, d4⟩, e0, e1, e2, e3, e4⟩ := cells5 H3.out.2.2.1
      obtain ⟨⟨z0', z1'⟩, zf0, zf1⟩ := blk2 H3.out.2.2.2
      obtain ⟨⟨y0, y1, y2, y3, y4⟩, g0, g1, g2, g3, g4⟩ := cells5 H3.out.1
      have hne1 : w.heap.size ≠ w3.heap.size := by omega
      have hne2 : w.heap.size ≠ w3.heap.size + 1 := by omega
      go_region
      all_goals
        go_wp2_with fail
      have hp := put5_at H3.out.1 (.int .i64 0) (.slice none 0 0) (.int .i64 0) (.int .i64 0) (.slice none 0 0)
      have hbp := put5_bel V w.heap.size (.int .i64 0) (.slice none 0 0) (.int .i64 0) (.int .i64 0) (.slice none 0 0)
      obtain ⟨U, hU⟩ : ∃ U, put5 V w.heap.size (.int .i64 0) (.slice none 0 0) (.int .i64 0) (.int .i64 0) (.slice none 0 0) = U := ⟨_, rfl⟩
      rw [hU] at hp hbp
      simp only [put5] at hU
      rw [hU]
      have hp' : U.drew.heap[w.heap.size]? = _ := hp
      obtain ⟨⟨k0, k1, k2, k3, k4⟩, _⟩ := cells5 hp'
      refine bodyPost_ret (v := .tuple #[.agg zN, .int .i64 p, .int .i64 er]) (by simp [results, Try.results6, go_sem, k0, k1, k2, k3, k4]) rfl ⟨rfl, bdrewN (H3.out.2.1.trans hbp) 1⟩
    | ok n kk =>
      go_enter Try.func6, Try.ntmps6
      go_wp2_with fail
      refine Calls.mono HQ.out.1 ?_
      rintro e w3 ⟨q0, s0, s1, s2, q2, q3, t0, t1, t2, rfl, hn3, hf3⟩
      have hb3 : Below w.heap.size w w3 := HQ.out.2.1.trans (hf3.toBelow HQ.out.2.1.size (fun i hi q => by omega))
      have hx3 := hf3.at HQ.out.2.2.1 (by omega)
      have hz3 := hf3.size
      rw [HQ.out.2.2.2] at hz3
      have hn4 : NdV (fun g => w.heap.size < g ∧ g < w3.heap.size) w3 n [.int .i64 q0, .slice s0 s1 s2, .int .i64 q2, .int .i64 q3, .slice t0 t1 t2] := hn3.fro (fun g hg => ⟨by have := hg.1; rw [HQ.out.2.2.2] at this; omega, hg.2⟩) (Nat.le_refl _) (fun _ _ _ => rfl)
      obtain ⟨y1, y2, b4⟩ := box2' w3 (.cells #[.int .i64 q0, .slice s0 s1 s2, .int .i64 q2, .int .i64 q3, .slice t0 t1 t2] 27) (.cells #[.int .i64 0, .int .i64 0] 55)
      have hx4 := (b4.block _ (lt_of hx3)).trans hx3
      have hb4 := hb3.trans (b4.mono hb3.size)
      have H3 : Hid _ := And.intro hx4 (And.intro hb4 (And.intro y1 (And.intro y2 (And.intro hn4 b4))))
      clear hf3 hb3 hx3 y1 y2 b4 hx4 hb4 HQ hrun HR hn3 hn4
      go_upto_region 5 with fail
      obtain ⟨V, hV⟩ : ∃ V, (w3.alloc (.cells #[.int .i64 q0, .slice s0 s1 s2, .int .i64 q2, .int .i64 q3, .slice t0 t1 t2] 27)).alloc (.cells #[.int .i64 0, .int .i64 0] 55) = V := ⟨_, rfl⟩
      rw [hV] at H3 ⊢
      clear hV
      obtain ⟨⟨d0, d1, d2, d3, d4⟩, e0, e1, e2, e3, e4⟩ := cells5 H3.out.2.2.1
      obtain ⟨⟨z0', z1'⟩, zf0, zf1⟩ := blk2 H3.out.2.2.2.1
      obtain ⟨⟨y0, y1, y2, y3, y4⟩, g0, g1, g2, g3, g4⟩ := cells5 H3.out.1
      have hne1 : w.heap.size ≠ w3.heap.size := by omega
      have hne2 : w.heap.size ≠ w3.heap.size + 1 := by omega
      go_region
      all_goals
        go_wp2_with fail
      have hp := put5_at H3.out.1 (.int .i64 q0) (.slice s0 s1 s2) (.int .i64 q2) (.int .i64 q3) (.slice t0 t1 t2)
      have hbp := put5_bel V w.heap.size (.int .i64 q0) (.slice s0 s1 s2) (.int .i64 q2) (.int .i64 q3) (.slice t0 t1 t2)
      have hbk := put5_blk V w.heap.size (.int .i64 q0) (.slice s0 s1 s2) (.int .i64 q2) (.int .i64 q3) (.slice t0 t1 t2)
      have hbs := put5_size V w.heap.size (.int .i64 q0) (.slice s0 s1 s2) (.int .i64 q2) (.int .i64 q3) (.slice t0 t1 t2)
      obtain ⟨U, hU⟩ : ∃ U, put5 V w.heap.size (.int .i64 q0) (.slice s0 s1 s2) (.int .i64 q2) (.int .i64 q3) (.slice t0 t1 t2) = U := ⟨_, rfl⟩
      rw [hU] at hp hbp hbk hbs
      simp only [put5] at hU
      rw [hU]
      have hp' : U.drew.heap[w.heap.size]? = _ := hp
      obtain ⟨⟨k0, k1, k2, k3, k4⟩, _⟩ := cells5 hp'
      have hVs := H3.out.2.2.2.2.2.size
      have hn5 : NdV (Nw w U.drew) U.drew n [.int .i64 q0, .slice s0 s1 s2, .int .i64 q2, .int .i64 q3, .slice t0 t1 t2] := NdV.fro (O' := Nw w U.drew) (w' := U.drew) (fun g hg => ⟨Nat.le_of_lt hg.1, by have := hg.2; show g < U.heap.size; omega⟩) (by show w3.heap.size ≤ U.heap.size; omega) (fun g hg hgs => (hbk g (by have := hg.1; omega)).trans (H3.out.2.2.2.2.2.block g hgs)) H3.out.2.2.2.2.1
      refine bodyPost_ret (v := .tuple #[.agg #[.int .i64 q0, .slice s0 s1 s2, .int .i64 q2, .int .i64 q3, .slice t0 t1 t2], .int .i64 0, .int .i64 0]) (by simp [results, Try.results6, go_sem, k0, k1, k2, k3, k4]) rfl ⟨_, _, _, _, _, _, _, _, _, rfl, hn5, bdrewN (H3.out.2.1.trans hbp) 1⟩
end Go.Proofs.Ythlkbijpphdblaa
