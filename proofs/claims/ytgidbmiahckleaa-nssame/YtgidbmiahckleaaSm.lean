/- NsSame. -/
import Derived.Test.YtgidbmiahckleaaSm1
namespace Go.Proofs.Ytgidbmiahckleaa
open Go.RowKit
set_option linter.unusedVariables false
theorem conv1 (B : Nat) (c : Int) (w : World) (h : w.cell? ⟨B, 0, none⟩ = some (.int .u8 c)) : (convert 70 9 (.slice (some ⟨B, 0, none⟩) 1 1)).run Try.prog w = .ok (.string ⟨#[UInt8.ofNat c.toNat]⟩) w := by
  rw [run_convert_bytes_string w 70 9 5 _ _ _ Try.underlying70 Try.underlying5 Try.underlying9]
  have hl := run_loadCells_list (P := Try.prog) (w := w) ⟨B, 0, none⟩ [Value.int .u8 c] (fun j v hj => by
    cases j with
    | zero => simp at hj; rw [← hj]; exact h
    | succ j => simp at hj)
  have := run_bytesToString w ⟨B, 0, none⟩ 1 1 [c] hl
  rw [this]
  rfl
theorem c1n {W : World} {B : Nat} {x : Value} {t : TypeId} (h : W.heap[B]? = some (.cells #[x] t (0, 0))) : W.cell? ⟨B, 0, none⟩ = some x := by
  simp only [World.cell?, h]
  rfl
theorem conv1n (c : Int) (w : World) : (convert 70 9 (.slice (some ⟨w.heap.size, 0, none⟩) 1 1)).run Try.prog (w.alloc (.cells #[.int .u8 c] 5)) = .ok (.string ⟨#[UInt8.ofNat c.toNat]⟩) (w.alloc (.cells #[.int .u8 c] 5)) := conv1 _ _ _ (c1n (nw_heap _ _))
theorem info72 : (Try.prog.info? 72).map (fun i => (i.zero.map fun z => z.cells.size, i.size, i.bytes)) = some (some 3, 3, 40) := by kernel_rfl
theorem info72p : ∃ i z, Try.prog.info? 72 = some i ∧ i.zero = some z ∧ z.cells.size = 3 ∧ i.size = 3 ∧ i.bytes = 40 := by
  have := info72
  cases h : Try.prog.info? 72 with
  | none => rw [h] at this; simp at this
  | some i =>
    rw [h] at this
    simp at this
    obtain ⟨⟨z, h1, h2⟩, h3, h4⟩ := this
    exact ⟨i, z, rfl, h1, h2, h3, h4⟩
abbrev atc (a : ByteArray × ByteArray × Int) : List Value := [.string a.1, .string a.2.1, .int .i64 a.2.2]
theorem atc_get : ∀ (l : Ats) (i c : Nat) (hi : i < l.length), c < 3 → (l.flatMap atc)[3 * i + c]? = (atc (l[i]'hi))[c]?
  | [], i, c, hi, _ => by simp at hi
  | a :: l, 0, c, hi, hc => by
    rw [List.flatMap_cons, List.getElem?_append_left (by simp; omega)]
    simp
  | a :: l, i + 1, c, hi, hc => by
    rw [List.flatMap_cons, List.getElem?_append_right (by simp; omega)]
    have e : 3 * (i + 1) + c - 3 = 3 * i + c := by omega
    simp only [List.length_cons, List.length_nil]
    rw [e, atc_get l i c (by simpa using hi) hc]
    simp
theorem AtR.of_row {w : World} {g cap base : Nat} {ats : Ats} (h : w.ownsRow base 72 3 (.slice (some ⟨g, 0, none⟩) ats.length cap) ats.length (ats.flatMap atc)) (hl : ats.length ≤ maxLen) (hs : ∀ a ∈ ats, a.1.size ≤ maxLen) : AtR w g 0 ats := by
  refine ⟨(row_base h g rfl).2, hl, fun i hi => ?_⟩
  have hcell : ∀ c v, c < 3 → (atc (ats[i]'hi))[c]? = some v → w.cell? ⟨g, 0 + i * 3 + c, none⟩ = some v := by
    intro c v hc hv
    have := h.cells (g := g) rfl (3 * i + c) v ((atc_get ats i c hi hc).trans hv)
    rw [addr_add0] at this
    have e : 0 + i * 3 + c = 3 * i + c := by omega
    rw [e]
    exact this
  exact ⟨hcell 0 _ (by omega) rfl, hcell 1 _ (by omega) rfl, hcell 2 _ (by omega) rfl, hs _ (List.getElem_mem hi)⟩
theorem row_new {W : World} {g n : Nat} {cs : Array Value} (h : W.heap[g]? = some (.cells cs 72 (0, 0))) (hs : cs.size = n * 3) (hn : n ≤ maxLen) : W.ownsRow 0 72 3 (.slice (some ⟨g, 0, none⟩) n n) n cs.toList :=
  ⟨by simpa using hs, .inr ⟨g, n, cs, rfl, Nat.zero_le _, h, Nat.le_refl _, hn, hs, by rw [← hs, ← Array.length_toList, List.take_length]⟩⟩
theorem nn2_size (f : UInt8) (i : Nat) : (nn2 f i).size = 2 := rfl
set_option maxRecDepth 100000 in
set_option maxHeartbeats 3200000 in
theorem same_s (a b lo : Int) (sp : ByteArray) (ha : 0 ≤ a ∧ a < 256) (hb : 0 ≤ b ∧ b < 256) (hl : 0 ≤ lo ∧ lo < 256) (w : World) : Calls Try.prog 5 #[.int .u8 a, .int .u8 b, .string sp, .int .u8 lo] w fun e w' => e = .returned (.bool true) ∧ Below w.heap.size w w' := by
  by_cases hC : (sp.size : Int) ≤ 300 ∧ ¬ sp.toList = [] ∧ ¬ sp.toList = XML_L ∧ ¬ sp.toList = XNS_L
  · obtain ⟨h1, h2, h3, h4⟩ := hC
    unfold XML_L at h3
    unfold XNS_L at h4
    have g3 : (sp.toList == XML_L) = false := by simpa [XML_L] using h3
    have g4 : (sp.toList == XNS_L) = false := by simpa [XNS_L] using h4
    unfold XML_L at g3
    unfold XNS_L at g4
    have h5 : ¬ 300 < (sp.size : Int) := by omega
    have g2 : sp.toList.isEmpty = false := by simpa using h2
    have cv1 := conv1n
    have cv2 := fun (o : Obj) (c : Int) (W : World) => conv1 (W.heap.size + 1) c ((W.alloc o).alloc (.cells #[.int .u8 c] 5)) (by have := nw_heap (W.alloc o) (.cells #[.int .u8 c] 5); rw [sza] at this; exact c1n this)
    have cv3 := fun (o o' : Obj) (c : Int) (W : World) => conv1 (W.heap.size + 1 + 1) c (((W.alloc o).alloc o').alloc (.cells #[.int .u8 c] 5)) (by have := nw_heap ((W.alloc o).alloc o') (.cells #[.int .u8 c] 5); rw [sza, sza] at this; exact c1n this)
    go_enter Try.func5, Try.ntmps5
    go_upto_region 8 with (first | (go_at_call 7; refine Calls.mono (known_s _) ?_; rintro e w1 ⟨rfl, hb1⟩))
    have hi : ∀ x : Int, 0 ≤ x → ∃ i : Fin 26, UInt8.ofNat (97 + x % 26).toNat = UInt8.ofNat (97 + (i : Nat)) := fun x hx => ⟨⟨(x % 26).toNat, by omega⟩, by congr 1; show _ = 97 + (x % 26).toNat; omega⟩
    obtain ⟨i, hi1⟩ := hi a ha.1
    obtain ⟨j, hj1⟩ := hi b hb.1
    obtain ⟨k, hk1⟩ := hi lo hl.1
    have e1 : ((⟨#[112]⟩ : ByteArray) ++ ⟨#[UInt8.ofNat (97 + a % 26).toNat]⟩) = nn2 112 i := by rw [hi1]; rfl
    have e2 : ((⟨#[113]⟩ : ByteArray) ++ ⟨#[UInt8.ofNat (97 + b % 26).toNat]⟩) = nn2 113 j := by rw [hj1]; rfl
    have e3 : ((⟨#[108]⟩ : ByteArray) ++ ⟨#[UInt8.ofNat (97 + lo % 26).toNat]⟩) = nn2 108 k := by rw [hk1]; rfl
    rw [e1, e2, e3]
    have hz1 : ∀ o o' o'', Below w1.heap.size w1 (((w1.alloc o).alloc o').alloc o'') := fun o o' o'' => ((((Below.refl _ _).alloc (Nat.le_refl _) o).alloc (by simp) o').alloc (by simp; omega) o'')
    have hb3 := hb1.trans ((hz1 (.cells #[.int .u8 (97 + a % 26)] 5) (.cells #[.int .u8 (97 + b % 26)] 5) (.cells #[.int .u8 (97 + lo % 26)] 5)).mono hb1.size)
    generalize (((w1.alloc (.cells #[.int .u8 (97 + a % 26)] 5)).alloc (.cells #[.int .u8 (97 + b % 26)] 5)).alloc (.cells #[.int .u8 (97 + lo % 26)] 5)) = w3 at *
    have hF := sf i j k sp h3 h4 h2
    have hq := eq37
    generalize nn2 112 i = p at *
    generalize nn2 113 j = q at *
    generalize nn2 108 k = l at *
    have sz1 := hF.zp
    have sz2 := hF.zq
    have sz3 := hF.zl
    have HF : Hid _ := hF
    clear cv1 cv2 cv3 hz1 e1 e2 e3 hi hi1 hj1 hk1 hF h3 h4 g3 g4 h2 g2
    obtain ⟨i72, z72, hi72, z0, zc, z1, z3⟩ := info72p
    have hO3 : ∀ o o', SC (fun k => k = w3.heap.size) (((w3.alloc (.cells #[.map none, .slice none 0 0] 81)).alloc o).alloc o') w3.heap.size [] [] := fun o o' => (new_sc w3).below (((Below.refl _ _).alloc (Nat.le_refl _) o).alloc (by simp) o')
    have hrow : (((w3.alloc (.cells #[.map none, .slice none 0 0] 81)).alloc (.cells #[.string (⟨#[120, 109, 108, 110, 115, 58]⟩ ++ p), .string sp, .int .i64 0, .string (⟨#[120, 109, 108, 110, 115, 58]⟩ ++ q), .string sp, .int .i64 5, .string ⟨#[120, 109, 108, 110, 115]⟩, .string sp, .int .i64 9] 72)).alloc (.cells #[.string (p ++ ⟨#[58, 120]⟩), .string ⟨#[49]⟩, .int .i64 11, .string ⟨#[120]⟩, .string ⟨#[50]⟩, .int .i64 12] 72)).ownsRow 0 72 3 (.slice (some ⟨w3.heap.size + 1, 0, none⟩) 3 3) 3 [.string (⟨#[120, 109, 108, 110, 115, 58]⟩ ++ p), .string sp, .int .i64 0, .string (⟨#[120, 109, 108, 110, 115, 58]⟩ ++ q), .string sp, .int .i64 5, .string ⟨#[120, 109, 108, 110, 115]⟩, .string sp, .int .i64 9] := by
      have := xa2 (w3.alloc (.cells #[.map none, .slice none 0 0] 81)) (.cells #[.string (⟨#[120, 109, 108, 110, 115, 58]⟩ ++ p), .string sp, .int .i64 0, .string (⟨#[120, 109, 108, 110, 115, 58]⟩ ++ q), .string sp, .int .i64 5, .string ⟨#[120, 109, 108, 110, 115]⟩, .string sp, .int .i64 9] 72) (.cells #[.string (p ++ ⟨#[58, 120]⟩), .string ⟨#[49]⟩, .int .i64 11, .string ⟨#[120]⟩, .string ⟨#[50]⟩, .int .i64 12] 72)
      rw [sza] at this
      exact row_new this rfl (by decide)
    have hnews : (((w3.alloc (.cells #[.map none, .slice none 0 0] 81)).alloc (.cells #[.string (⟨#[120, 109, 108, 110, 115, 58]⟩ ++ p), .string sp, .int .i64 0, .string (⟨#[120, 109, 108, 110, 115, 58]⟩ ++ q), .string sp, .int .i64 5, .string ⟨#[120, 109, 108, 110, 115]⟩, .string sp, .int .i64 9] 72)).alloc (.cells #[.string (p ++ ⟨#[58, 120]⟩), .string ⟨#[49]⟩, .int .i64 11, .string ⟨#[120]⟩, .string ⟨#[50]⟩, .int .i64 12] 72)).heap[w3.heap.size + 1 + 1]? = some (.cells #[.string (p ++ ⟨#[58, 120]⟩), .string ⟨#[49]⟩, .int .i64 11, .string ⟨#[120]⟩, .string ⟨#[50]⟩, .int .i64 12] 72 (0, 0)) := by
      have := nw_heap ((w3.alloc (.cells #[.map none, .slice none 0 0] 81)).alloc (.cells #[.string (⟨#[120, 109, 108, 110, 115, 58]⟩ ++ p), .string sp, .int .i64 0, .string (⟨#[120, 109, 108, 110, 115, 58]⟩ ++ q), .string sp, .int .i64 5, .string ⟨#[120, 109, 108, 110, 115]⟩, .string sp, .int .i64 9] 72)) (.cells #[.string (p ++ ⟨#[58, 120]⟩), .string ⟨#[49]⟩, .int .i64 11, .string ⟨#[120]⟩, .string ⟨#[50]⟩, .int .i64 12] 72)
      rw [sza, sza] at this
      exact this
    have HA : Hid _ := And.intro hO3 (And.intro hrow (And.intro hnews hb3))
    clear hO3 hrow hnews
    go_wp2_with (first | (go_at_call 9; refine Calls.mono (new_s _) ?_; rintro e w' ⟨rfl, rfl⟩) | (at_builtin; refine wpList_append_lies _ rfl (.tmp 78) (.tmp 83) 31 rfl 0 72 i72 z72 3 40 Try.underlying31 hi72 z0 z1 z3 zc (by decide) (.slice (some ⟨w3.heap.size + 1, 0, none⟩) 3 3) 3 _ rfl HA.out.2.1 ⟨w3.heap.size + 1 + 1, 0, none⟩ 2 2 [.string (p ++ ⟨#[58, 120]⟩), .string ⟨#[49]⟩, .int .i64 11, .string ⟨#[120]⟩, .string ⟨#[50]⟩, .int .i64 12] rfl rfl (World.news_of_block HA.out.2.2.1) (by intro u hu; simp at hu; rcases hu with rfl | rfl | rfl | rfl | rfl | rfl <;> rfl) (by decide) (by decide) (by decide) (Nat.zero_le _) _ rfl ?_; intro g2 cap2 w4 hown4 hg4 hat4 hlt4; have H4 : Hid _ := And.intro hown4 (And.intro hg4 hat4); clear hown4 hg4 hat4))
    have hz4 := H4.out.2.1.size
    simp only [sza] at hz4
    have hg2w : g2 ≠ w3.heap.size := by
      rcases H4.out.2.2 with q | q
      · simp [Value.ownBlock] at q; omega
      · simp only [sza] at q; omega
    have hS4 : SC (fun k => k = w3.heap.size) w4 w3.heap.size [] [] := (HA.out.1 _ _).keep H4.out.2.1.size (fun q e => H4.out.2.1.block q (by simp only [sza]; omega) (by simp [Value.ownBlock]; omega))
    have hA4 : AtO w4 (some ⟨g2, 0, none⟩) (att1 p q sp) := .inr ⟨g2, 0, rfl, AtR.of_row (base := 0) (cap := cap2) (ats := att1 p q sp) H4.out.1 (att1_max p q sp) (att1_sz sz1 sz2)⟩
    have hgg : ∀ (g off : Nat), (some ⟨g2, 0, none⟩ : Option Addr) = some ⟨g, off, none⟩ → ¬ g = w3.heap.size := by intro g off e; simp at e; omega
    have hop := op1 (cap2 := cap2) HF.out hS4 hA4 hgg
    have hb4 : Below w.heap.size w w4 := HA.out.2.2.2.trans ⟨H4.out.2.1.os, H4.out.2.1.tape, H4.out.2.1.output, by omega, fun q hq => (H4.out.2.1.block q (by simp only [sza]; have := hb3.size; omega) (by simp [Value.ownBlock]; have := hb3.size; omega)).trans (((((Below.refl w3.heap.size w3).alloc (Nat.le_refl _) _).alloc (by simp) _).alloc (by simp; omega) _).block q (by have := hb3.size; omega))⟩
    have H5 : Hid _ := And.intro hop hb4
    clear hop hb4 hA4 hS4
    refine Calls.mono H5.out.1 ?_
    rintro e w5 ⟨sv, rfl, hf5, O5, hO5, hS5, hr5, hn5⟩
    rcases hr5.2 with ⟨_, h0⟩ | ⟨r, rcap, cur, rfl, hgb, hgc, _⟩
    · simp at h0
    have hrl := lt_of hgc
    have c0 : w5.cell? ⟨r, 0, none⟩ = some (.string sp) := by
      have := hr5.cells (g := r) rfl 0 (.string sp) rfl
      rwa [addr_add0] at this
    have c4 : w5.cell? ⟨r, 4, none⟩ = some (.string ⟨#[]⟩) := by
      have := hr5.cells (g := r) rfl 4 (.string ⟨#[]⟩) rfl
      rwa [addr_add0] at this
    have hnr := hn5 r rfl
    have hz5 := hf5.size
    have hw3 := hb3.size
    have hb5 : Below w.heap.size w w5 := H5.out.2.trans ⟨hf5.os, hf5.tape, hf5.output, hf5.size, fun x hx => hf5.block x (by omega) (by omega)⟩
    have hO5w : ∀ x, O5 x → w.heap.size ≤ x := fun x hx => by
      rcases hO5 x hx with e | e <;> omega
    have hS5a := fun o => hS5.below ((Below.refl _ _).alloc (Nat.le_refl _) o)
    have hop2 := fun o => op2 HF.out (hS5a o)
    have H6 : Hid _ := And.intro hop2 (And.intro hb5 (And.intro hO5w (And.intro c0 (And.intro c4 hS5))))
    clear hop2 hb5 hO5w c0 c4 hS5 hS5a hf5 hO5 hr5 hn5 hgc H4 H5 HA hgg
    go_wp2_with fail
    refine Calls.mono (H6.out.1 _) ?_
    rintro e w6 ⟨sa, sc, rfl, hf6, O6, hO6, hS6⟩
    have hz6 := hf6.size
    simp only [sza] at hz6
    have hT1 : w6.heap[w5.heap.size]? = some (.cells #[.string sp, .string l, .slice (some ⟨r, 0, none⟩) 2 rcap, .int .i64 0] 40 (0, 0)) := (hf6.block w5.heap.size (by simp only [sza]; omega) (fun x => by have := H6.out.2.2.2.2.2.lt _ x; omega)).trans (nw_heap _ _)
    have hb6 : Below w.heap.size w w6 := H6.out.2.1.trans ⟨hf6.os, hf6.tape, hf6.output, by omega, fun x hx => (hf6.block x (by simp only [sza]; omega) (fun y => by have := H6.out.2.2.1 x y; omega)).trans (((Below.refl w5.heap.size w5).alloc (Nat.le_refl _) _).block x (by omega))⟩
    have c0 := (hf6.cell (i := 0) (g := r) (by simp only [sza]; omega) hnr).trans ((((Below.refl w5.heap.size w5).alloc (Nat.le_refl _) _).cell (p := ⟨r, 0, none⟩) hrl).trans H6.out.2.2.2.1)
    have c4 := (hf6.cell (i := 4) (g := r) (by simp only [sza]; omega) hnr).trans ((((Below.refl w5.heap.size w5).alloc (Nat.le_refl _) _).cell (p := ⟨r, 4, none⟩) hrl).trans H6.out.2.2.2.2.1)
    have hO6w : ∀ x, O6 x → w.heap.size ≤ x ∧ x ≠ r ∧ x ≠ w5.heap.size := fun x hx => by
      rcases hO6 x hx with e | e
      · have := H6.out.2.2.1 x e
        have := H6.out.2.2.2.2.2.lt x e
        exact ⟨by omega, fun y => hnr (by rw [← y]; exact e), by omega⟩
      · simp only [sza] at e
        omega
    have hS6a := fun o o' => hS6.below (((Below.refl _ _).alloc (Nat.le_refl _) o).alloc (by simp) o')
    have hA7 : ∀ o, AtO ((w6.alloc o).alloc (.cells #[.string (p ++ ⟨#[58, 120]⟩), .string ⟨#[49]⟩, .int .i64 11, .string (q ++ ⟨#[58, 120]⟩), .string ⟨#[50]⟩, .int .i64 12] 72)) (some ⟨w6.heap.size + 1, 0, none⟩) (att3 p q) := fun o => by
      refine .inr ⟨_, _, rfl, AtR.of_block (cs := #[.string (p ++ ⟨#[58, 120]⟩), .string ⟨#[49]⟩, .int .i64 11, .string (q ++ ⟨#[58, 120]⟩), .string ⟨#[50]⟩, .int .i64 12]) ?_ rfl (att3_max p q) (att3_sz sz1 sz2)⟩
      have := nw_heap (w6.alloc o) (.cells #[.string (p ++ ⟨#[58, 120]⟩), .string ⟨#[49]⟩, .int .i64 11, .string (q ++ ⟨#[58, 120]⟩), .string ⟨#[50]⟩, .int .i64 12] 72)
      rw [sza] at this
      exact this
    have hop3 := fun o => op3 HF.out (hS6a o _) (hA7 o) (fun x => by have := hS6.lt _ x; omega)
    have H7 : Hid _ := And.intro hop3 (And.intro hb6 (And.intro hO6w (And.intro c0 (And.intro c4 (And.intro hS6 hT1)))))
    clear hop3 hb6 hO6w c0 c4 hS6 hS6a hf6 hO6 hA7 hT1 H6
    go_wp2_with fail
    refine Calls.mono (H7.out.1 _) ?_
    rintro e w7 ⟨rfl, hf7, O7, hO7, hS7⟩
    have hz7 := hf7.size
    simp only [sza] at hz7
    have hbb : ∀ o o', Below w6.heap.size w6 ((w6.alloc o).alloc o') := fun o o' => ((Below.refl _ _).alloc (Nat.le_refl _) o).alloc (by simp) o'
    have kp : ∀ x, x < w6.heap.size + 1 → ¬ O6 x → w7.heap[x]? = ((w6.alloc (.cells #[.string sp, .string l, .slice sa 0 sc, .int .i64 0] 40)).alloc (.cells #[.string (p ++ ⟨#[58, 120]⟩), .string ⟨#[49]⟩, .int .i64 11, .string (q ++ ⟨#[58, 120]⟩), .string ⟨#[50]⟩, .int .i64 12] 72)).heap[x]? := fun x hx hn => hf7.block x (by simp only [sza]; omega) hn
    have hn1 : ¬ O6 w5.heap.size := fun x => (H7.out.2.2.1 _ x).2.2 rfl
    have hn2 : ¬ O6 r := fun x => (H7.out.2.2.1 _ x).2.1 rfl
    have hn3 : ¬ O6 w6.heap.size := fun x => by have := H7.out.2.2.2.2.2.1.lt _ x; omega
    have T1 := (kp w5.heap.size (by omega) hn1).trans (((hbb _ _).block _ (by omega)).trans H7.out.2.2.2.2.2.2)
    have T2 := (kp w6.heap.size (by omega) hn3).trans (xa2 _ _ _)
    have R0 := (World.cell?_of_block (a := ⟨r, 0, none⟩) (kp r (by omega) hn2)).trans (((hbb _ _).cell (p := ⟨r, 0, none⟩) (by show r < _; omega)).trans H7.out.2.2.2.1)
    have R4 := (World.cell?_of_block (a := ⟨r, 4, none⟩) (kp r (by omega) hn2)).trans (((hbb _ _).cell (p := ⟨r, 4, none⟩) (by show r < _; omega)).trans H7.out.2.2.2.2.1)
    have hb7 : Below w.heap.size w w7 := H7.out.2.1.trans ⟨hf7.os, hf7.tape, hf7.output, by omega, fun x hx => (kp x (by omega) (fun y => by have := (H7.out.2.2.1 x y).1; omega)).trans ((hbb _ _).block x (by omega))⟩
    have hba : ∀ o, Below w7.heap.size w7 (w7.alloc o) := fun o => (Below.refl _ _).alloc (Nat.le_refl _) o
    have hrs := fun o => resolve_sc (hS7.below (hba o)) (q ++ ⟨#[58]⟩ ++ l) (jn_sz sz2 sz3)
    rw [HF.out.r] at hrs
    have H8 : Hid _ := And.intro hrs (And.intro T1 (And.intro T2 (And.intro R0 (And.intro R4 (And.intro hb7 (And.intro hS7 hba))))))
    clear hrs T1 T2 R0 R4 hb7 hS7 hba hbb kp hn1 hn2 hn3 hf7 hO7 H7
    go_wp2_with fail
    refine Calls.mono (H8.out.1 _) ?_
    rintro e w8 ⟨rfl, hb8⟩
    have hz8 := hb8.size
    simp only [sza] at hz8
    have h78 := (H8.out.2.2.2.2.2.2.2 _).trans (hb8.mono (by simp only [sza]; omega))
    have h79 : ∀ o, Below w7.heap.size w7 (w8.alloc o) := fun o => h78.alloc h78.size o
    have t1 := fun o => (bl4 (((h79 o).block _ (lt_of H8.out.2.1)).trans H8.out.2.1)).1
    have t2 := fun o => (bl4 (((h79 o).block _ (lt_of H8.out.2.2.1)).trans H8.out.2.2.1)).1
    have r0 := fun o => ((h79 o).cell (p := ⟨r, 0, none⟩) (by show r < _; omega)).trans H8.out.2.2.2.1
    have r4 := fun o => ((h79 o).cell (p := ⟨r, 4, none⟩) (by show r < _; omega)).trans H8.out.2.2.2.2.1
    have hdp := fun o => depth_sc (H8.out.2.2.2.2.2.2.1.below (h79 o))
    have H9 : Hid _ := And.intro hdp (fun o => H8.out.2.2.2.2.2.1.trans ((h79 o).mono (by omega)))
    clear hdp h79 h78 hb8 H8
    go_wp2_with (first | (go_at_call 20; refine Calls.mono (H9.out.1 _) ?_; rintro e w' ⟨rfl, rfl⟩))
    go_ret
    exact ⟨rfl, H9.out.2 _⟩
  · have h : 300 < (sp.size : Int) ∨ sp.toList = [] ∨ sp.toList = XML_L ∨ sp.toList = XNS_L := by
      by_cases h1 : (sp.size : Int) ≤ 300
      · by_cases h2 : sp.toList = []
        · exact .inr (.inl h2)
        · by_cases h3 : sp.toList = XML_L
          · exact .inr (.inr (.inl h3))
          · by_cases h4 : sp.toList = XNS_L
            · exact .inr (.inr (.inr h4))
            · exact absurd ⟨h1, h2, h3, h4⟩ hC
      · exact .inl (by omega)
    unfold XML_L XNS_L at h
    clear hC
    go_enter Try.func5, Try.ntmps5
    go_upto_region 5 with (first | (go_at_call 7; refine Calls.mono (known_s _) ?_; rintro e w1 ⟨rfl, hb1⟩))
    all_goals first | (go_ret; exact ⟨rfl, hb1⟩) | (exfalso; rcases h with h | h | h | h <;> first | omega | contradiction | (simp_all; done))
end Go.Proofs.Ytgidbmiahckleaa
