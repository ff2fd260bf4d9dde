/- A letter's bytes are read as that letter, whatever stands behind them. -/
import Derived.Test.YtpghlafkkcffgaaEnc
namespace Go.Proofs.Ytpghlafkkcffgaa
open Go.RowKit
set_option linter.unusedVariables false

theorem enc_len (r : Int) : ((enc r).length : Int) = wid r := by
  rcases wid_cases r with h | h | h | h | h
  · rw [enc0 h, h]; rfl
  · rw [enc1 h, h]; rfl
  · rw [enc2 h, h]; rfl
  · rw [enc3 h, h]; rfl
  · rw [enc4 h, h]; rfl
theorem isTl_128 (x : Int) (h0 : 0 ≤ x) (h1 : x < 64) : isTl (128 + x) = true := by
  unfold isTl; rw [decide_eq_true]; omega
theorem dec_enc (r : Int) (t : List Int) (hw : ¬ wid r = 0) : dec (enc r ++ t) = (r, wid r) := by
  have hr := wid_rng r
  rcases wid_cases r with h | h | h | h | h
  · exact absurd h hw
  · rw [enc1 h, h]
    have := hr.2.1 h
    unfold dec
    rw [if_neg (by simp), if_pos (by simp; omega)]
    rfl
  · rw [enc2 h, h]
    have := hr.2.2.1 h
    unfold dec
    have g0 : ([192 + r / 64, 128 + r % 64] ++ t).getD 0 0 = 192 + r / 64 := rfl
    have g1 : ([192 + r / 64, 128 + r % 64] ++ t).getD 1 0 = 128 + r % 64 := rfl
    rw [g0, g1, if_neg (by simp), if_neg (by omega), if_neg (by omega), if_pos (by omega), if_pos (by simp)]
    unfold dec2
    rw [if_pos (isTl_128 _ (by omega) (by omega))]
    have e : (192 + r / 64) % 32 * 64 + (128 + r % 64) % 64 = r := by omega
    rw [e]
    unfold fin
    rw [if_pos h]
  · rw [enc3 h, h]
    have := hr.2.2.2.1 h
    unfold dec
    have g0 : ([224 + r / 4096, 128 + r / 64 % 64, 128 + r % 64] ++ t).getD 0 0 = 224 + r / 4096 := rfl
    have g1 : ([224 + r / 4096, 128 + r / 64 % 64, 128 + r % 64] ++ t).getD 1 0 = 128 + r / 64 % 64 := rfl
    have g2 : ([224 + r / 4096, 128 + r / 64 % 64, 128 + r % 64] ++ t).getD 2 0 = 128 + r % 64 := rfl
    rw [g0, g1, g2, if_neg (by simp), if_neg (by omega), if_neg (by omega), if_neg (by omega), if_pos (by omega), if_pos (by simp)]
    unfold dec3
    rw [if_pos ⟨isTl_128 _ (by omega) (by omega), isTl_128 _ (by omega) (by omega)⟩]
    have e : ((224 + r / 4096) % 16 * 64 + (128 + r / 64 % 64) % 64) * 64 + (128 + r % 64) % 64 = r := by omega
    rw [e]
    unfold fin
    rw [if_pos h]
  · rw [enc4 h, h]
    have := hr.2.2.2.2 h
    unfold dec
    have g0 : ([240 + r / 262144, 128 + r / 4096 % 64, 128 + r / 64 % 64, 128 + r % 64] ++ t).getD 0 0 = 240 + r / 262144 := rfl
    have g1 : ([240 + r / 262144, 128 + r / 4096 % 64, 128 + r / 64 % 64, 128 + r % 64] ++ t).getD 1 0 = 128 + r / 4096 % 64 := rfl
    have g2 : ([240 + r / 262144, 128 + r / 4096 % 64, 128 + r / 64 % 64, 128 + r % 64] ++ t).getD 2 0 = 128 + r / 64 % 64 := rfl
    have g3 : ([240 + r / 262144, 128 + r / 4096 % 64, 128 + r / 64 % 64, 128 + r % 64] ++ t).getD 3 0 = 128 + r % 64 := rfl
    rw [g0, g1, g2, g3, if_neg (by simp), if_neg (by omega), if_neg (by omega), if_neg (by omega), if_neg (by omega), if_pos (by omega), if_pos (by simp)]
    unfold dec4
    rw [if_pos ⟨isTl_128 _ (by omega) (by omega), isTl_128 _ (by omega) (by omega), isTl_128 _ (by omega) (by omega)⟩]
    have e : (((240 + r / 262144) % 8 * 64 + (128 + r / 4096 % 64) % 64) * 64 + (128 + r / 64 % 64) % 64) * 64 + (128 + r % 64) % 64 = r := by omega
    rw [e]
    unfold fin
    rw [if_pos h]
theorem news_of {w : World} {b o : Nat} {l : List Int} {ob : Obj} (h : Bts w (some ⟨b, o, none⟩) l) :
    ∀ j u, (l.map (Value.int .u8))[j]? = some u → (w.alloc ob).cell? ((⟨b, o, none⟩ : Addr).add j) = some u := by
  intro j u hj
  rw [List.getElem?_map] at hj
  have hjl : j < l.length := by
    rcases Nat.lt_or_ge j l.length with h | h
    · exact h
    · rw [List.getElem?_eq_none h] at hj; simp at hj
  rcases h.2 with rfl | ⟨b', o', he, hc⟩
  · simp at hjl
  · simp at he
    obtain ⟨rfl, rfl⟩ := he
    have hcj := hc j hjl
    rw [addr_add, World.cell?_alloc_past ob _ _ (World.block_lt_of_cell? w _ hcj), hcj]
    rw [List.getElem?_eq_getElem hjl] at hj
    simp at hj
    rw [← hj]
    simp [List.getD_eq_getElem?_getD, hjl]
theorem u8_cells {l : List Int} : ∀ u ∈ l.map (Value.int .u8), u.oneCell' = true := by
  intro u hu
  simp at hu
  obtain ⟨x, _, rfl⟩ := hu
  rfl
theorem own_slice {w : World} {base n : Nat} {v : Value} {l : List Int} (h : w.ownsRow base 5 1 v n (l.map (Value.int .u8))) (hl : 0 < l.length) (hb : ∀ i, 0 ≤ l.getD i 0 ∧ l.getD i 0 < 256) :
    ∃ g cap, v = .slice (some ⟨g, 0, none⟩) l.length cap ∧ l.length ≤ cap ∧ cap ≤ maxLen ∧ Bts w (some ⟨g, 0, none⟩) l := by
  have hn : n = l.length := by have := h.1; simp at this; omega
  subst hn
  rcases h.2 with ⟨_, h0⟩ | ⟨g, cap, cur, rfl, hbg, hg, hnc, hcm, hcs, htake⟩
  · omega
  · refine ⟨g, cap, rfl, hnc, hcm, hb, .inr ⟨g, 0, rfl, fun i hi => ?_⟩⟩
    have := h.cells (g := g) rfl i (.int .u8 (l.getD i 0)) (by simp [List.getD_eq_getElem?_getD, hi])
    rw [addr_add] at this
    exact this
end Go.Proofs.Ytpghlafkkcffgaa
