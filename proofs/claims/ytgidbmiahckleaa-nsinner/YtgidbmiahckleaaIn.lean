/- NsInner: the walk. -/
import Derived.Test.YtgidbmiahckleaaIn0
namespace Go.Proofs.Ytgidbmiahckleaa
open Go.RowKit
set_option linter.unusedVariables false

theorem c1n {W : World} {B : Nat} {x : Value} {t : TypeId} (h : W.heap[B]? = some (.cells #[x] t (0, 0))) : W.cell? ⟨B, 0, none⟩ = some x := by
  simp only [World.cell?, h]
  rfl
theorem conv1 (B : Nat) (c : Int) (w : World) (h : w.cell? ⟨B, 0, none⟩ = some (.int .u8 c)) : (convert 70 9 (.slice (some ⟨B, 0, none⟩) 1 1)).run Try.prog w = .ok (.string ⟨#[UInt8.ofNat c.toNat]⟩) w := by
  rw [run_convert_bytes_string w 70 9 5 _ _ _ Try.underlying70 Try.underlying5 Try.underlying9]
  have hl := run_loadCells_list (P := Try.prog) (w := w) ⟨B, 0, none⟩ [Value.int .u8 c] (fun j v hj => by
    cases j with
    | zero => simp at hj; rw [← hj]; exact h
    | succ j => simp at hj)
  have := run_bytesToString w ⟨B, 0, none⟩ 1 1 [c] hl
  rw [this]
  rfl
theorem conv1n (c : Int) (w : World) : (convert 70 9 (.slice (some ⟨w.heap.size, 0, none⟩) 1 1)).run Try.prog (w.alloc (.cells #[.int .u8 c] 5)) = .ok (.string ⟨#[UInt8.ofNat c.toNat]⟩) (w.alloc (.cells #[.int .u8 c] 5)) := conv1 _ _ _ (c1n (nw_heap _ _))
/-- The space that a byte makes. -/
def wsp (c : Int) : ByteArray := if 0 < c % 4 then ⟨#[117]⟩ ++ ⟨#[UInt8.ofNat (97 + c % 26).toNat]⟩ else e0
theorem wsp_yes {c : Int} (h : 0 < c % 4) : wsp c = ⟨#[117]⟩ ++ ⟨#[UInt8.ofNat (97 + c % 26).toNat]⟩ := if_pos h
theorem wsp_no {c : Int} (h : ¬ 0 < c % 4) : wsp c = e0 := if_neg h
theorem wsp_len (c : Int) : (wsp c).toList.length ≤ 2 := by
  unfold wsp
  split
  · show ((⟨#[117, UInt8.ofNat (97 + c % 26).toNat]⟩ : ByteArray)).toList.length ≤ 2
    rw [tl_mk]
    simp
  · rw [tl_mk]
    simp
theorem wsp_x (c : Int) : ¬ (wsp c).toList = XML_L := fun q => by
  have := wsp_len c
  rw [q] at this
  exact absurd this (by decide)
theorem wsp_n (c : Int) : ¬ (wsp c).toList = XNS_L := fun q => by
  have := wsp_len c
  rw [q] at this
  exact absurd this (by decide)
theorem info9 : (Try.prog.info? 9).map (fun i => (i.zero.map fun z => z.cells.size, i.size, i.bytes)) = some (some 1, 1, 16) := by kernel_rfl
theorem info9p : ∃ i z, Try.prog.info? 9 = some i ∧ i.zero = some z ∧ z.cells.size = 1 ∧ i.size = 1 ∧ i.bytes = 16 := by
  have := info9
  cases h : Try.prog.info? 9 with
  | none => rw [h] at this; simp at this
  | some i =>
    rw [h] at this
    simp at this
    obtain ⟨⟨z, h1, h2⟩, h3, h4⟩ := this
    exact ⟨i, z, rfl, h1, h2, h3, h4⟩
/-- Where NsInner stands: ds: what is open; ws: what is wanted. -/
structure NI (w : World) (P : Nat) (O : Nat → Prop) (ds ws : List ByteArray) (v : Value) (wr : World) : Prop where
  sc : SC O wr P (lS ds.reverse) (hS ds.reverse)
  oB : ∀ k, O k → w.heap.size ≤ k
  row : wr.ownsRow w.heap.size 9 1 v ws.length (ws.map Value.string)
  nr : ∀ k, v.ownBlock = some k → ¬ O k
  b : Below w.heap.size w wr
theorem NI.below {w wr wr' : World} {P : Nat} {O : Nat → Prop} {ds ws : List ByteArray} {v : Value} (h : NI w P O ds ws v wr) (hb : Below wr.heap.size wr wr') : NI w P O ds ws v wr' := ⟨h.sc.below hb, h.oB, row_below h.row hb, h.nr, h.b.trans (hb.mono h.b.size)⟩
theorem NI.ofro {w wr wr' : World} {P : Nat} {O O' : Nat → Prop} {ds ds' ws : List ByteArray} {v : Value} (h : NI w P O ds ws v wr) (hf : Fro O wr wr') (hO : ∀ k, O' k → O k ∨ wr.heap.size ≤ k) (hs : SC O' wr' P (lS ds'.reverse) (hS ds'.reverse)) : NI w P O' ds' ws v wr' := by
  refine ⟨hs, fun k hk => ?_, row_fro h.row hf h.nr, fun k e q => ?_, h.b.trans ⟨hf.os, hf.tape, hf.output, hf.size, fun k hk => hf.block k (by have := h.b.size; omega) (fun q => by have := h.oB k q; omega)⟩⟩
  · rcases hO k hk with q | q
    · exact h.oB k q
    · have := h.b.size; omega
  · have hb := (row_base h.row k e).2
    rcases hO k q with q | q
    · exact h.nr k e q
    · omega
theorem NI.app {w W w7 : World} {P g2 cap2 : Nat} {O : Nat → Prop} {ds ws : List ByteArray} {v : Value} {s : ByteArray} (h : NI w P O ds ws v W) (hr : w7.ownsRow w.heap.size 9 1 (.slice (some ⟨g2, 0, none⟩) (ws.length + 1) cap2) (ws.length + 1) (ws.map Value.string ++ [.string s])) (hg : W.grownBy w7 v.ownBlock) (hat : v.ownBlock = some g2 ∨ g2 = W.heap.size) : NI w P O ds (ws ++ [s]) (.slice (some ⟨g2, 0, none⟩) (ws.length + 1) cap2) w7 := by
  refine ⟨h.sc.keep hg.size (fun k ok => hg.block k (h.sc.lt k ok) (fun q => h.nr k q.symm ok)), h.oB, by simpa using hr, fun k e q => ?_, h.b.grown hg h.b.size (fun k e => (row_base h.row k e).1)⟩
  simp [Value.ownBlock] at e
  subst e
  rcases hat with p | p
  · exact h.nr _ p q
  · have := h.sc.lt _ q; omega
theorem filt1 (s : ByteArray) : ((lS [s]).filter nonE).length = if s.toList = [] then 0 else 1 := by
  by_cases h : s.toList = []
  · have e : nonE (e0, s) = false := by unfold nonE; rw [h]; rfl
    rw [if_pos h, lS, List.filter_cons, e]
    rfl
  · have e : nonE (e0, s) = true := by unfold nonE; simpa using h
    rw [if_neg h, lS, List.filter_cons, e]
    rfl
theorem filtc (s : ByteArray) (r : List ByteArray) : ((lS (s :: r)).filter nonE).length = if s.toList = [] then 0 else 1 := filt1 s
set_option maxRecDepth 100000 in
set_option maxHeartbeats 3200000 in
theorem inner_s (sO : SortOk) (sN : SortNil) (a : Option Addr) (cap : Nat) (l : List Int) (w : World) (hB : Bts w a l) (hn : l.length ≤ cap) (hcm : cap ≤ maxLen) : Calls Try.prog 6 #[.slice a l.length cap] w fun e w' => e = .returned (.bool true) ∧ Below w.heap.size w w' := by
  unfold maxLen at hcm
  by_cases h40 : 40 < l.length
  · have h40' : (40 : Int) < (l.length : Int) := by omega
    go_enter Try.func6, Try.ntmps6
    go_wp2_with (first | (go_at_call 7; refine Calls.mono (known_s _) ?_; rintro e w1 ⟨rfl, hb1⟩))
    go_ret
    exact ⟨rfl, hb1⟩
  have h40' : ¬ (40 : Int) < (l.length : Int) := by omega
  obtain ⟨i9, z9, hi9, hz0, hzc, hz1, hz3⟩ := info9p
  have hq := eq37
  have cv1 := conv1n
  go_enter Try.func6, Try.ntmps6
  go_wp2_with (first | (go_at_call 7; refine Calls.mono (known_s _) ?_; rintro e w1 ⟨rfl, hb1⟩) | (go_at_call 9; refine Calls.mono (new_s _) ?_; rintro e w' ⟨rfl, rfl⟩))
  have hN0 : NI w w1.heap.size (fun k => k = w1.heap.size) [] [] (.slice none 0 0) (w1.alloc (.cells #[.map none, .slice none 0 0] 81)) := ⟨new_sc w1, fun k e => by have := hb1.size; omega, ⟨rfl, .inl ⟨rfl, rfl⟩⟩, fun k e => by simp [Value.ownBlock] at e, hb1.alloc hb1.size _⟩
  have HN : Hid _ := And.intro hN0 hB
  clear hN0 hB
  go_loopg [4, 5] l.length (fun m v4 v5 wr => ∃ (i : Nat) (ws : List ByteArray) (O : Nat → Prop), v5 = .int .i64 i ∧ i + m = l.length ∧ ws = (l.take i).map wsp ∧ NI w w1.heap.size O ws ws v4 wr)
  case atStart => exact ⟨0, [], _, rfl, by omega, rfl, HN.out.1⟩
  case round =>
    obtain ⟨i, ws, O, rfl, him, hws, hni⟩ := hrel
    have hwl : ws.length = i := by rw [hws]; simp; omega
    have HW : Hid _ := hwl
    clear hwl
    obtain ⟨va, vc, rfl⟩ := row_form hni.row
    by_cases hi : i < l.length
    · obtain ⟨m, rfl⟩ : ∃ m, gk = m + 1 := ⟨gk - 1, by omega⟩
      rcases HN.out.2.2 with hl0 | ⟨ab, ao, rfl, hcell⟩
      · rw [hl0] at hi; simp at hi
      have hwt : (l.take (i + 1)).map wsp = ws ++ [wsp (l.getD i 0)] := by
        rw [hws, List.take_add_one, List.getElem?_eq_getElem hi, List.getD_eq_getElem?_getD, List.getElem?_eq_getElem hi, List.map_append]
        rfl
      have c0 := hcell i hi
      have hal := World.block_lt_of_cell? w _ c0
      have cc := (hni.b.cell (p := ⟨ab, ao + i, none⟩) hal).trans c0
      have hrg := HN.out.2.1 i
      generalize l.getD i 0 = c at *
      have vx := wsp_x c
      have vn := wsp_n c
      have HI : Hid _ := And.intro hni (And.intro hwt (And.intro vx vn))
      clear hni hwt hws vx vn c0 hcell
      by_cases hc4 : 0 < c % 4
      · have hws1 : (⟨#[117]⟩ ++ ⟨#[UInt8.ofNat (97 + c % 26).toNat]⟩ : ByteArray) = wsp c := (wsp_yes hc4).symm
        go_upto_region 13 with fail
        have hX : Below wr.heap.size wr (wr.alloc (.cells #[.int .u8 (97 + c % 26)] 5)) := (Below.refl _ _).alloc (Nat.le_refl _) _
        have HX : Hid _ := HI.out.1.below hX
        generalize (wr.alloc (.cells #[.int .u8 (97 + c % 26)] 5)) = X at *
        generalize wsp c = s at *
        have hAt : AtO (X.alloc (.cells #[.string ⟨#[120, 109, 108, 110, 115]⟩, .string s, .int .i64 0] 72)) (some ⟨X.heap.size, 0, none⟩) [(⟨#[120, 109, 108, 110, 115]⟩, s, 0)] := .inr ⟨_, _, rfl, AtR.of_block (nw_heap _ _) rfl (by simp [maxLen]) (by intro x hx; simp at hx; subst hx; show (⟨#[120, 109, 108, 110, 115]⟩ : ByteArray).size ≤ maxLen; decide)⟩
        have hX1 : Below X.heap.size X (X.alloc (.cells #[.string ⟨#[120, 109, 108, 110, 115]⟩, .string s, .int .i64 0] 72)) := (Below.refl _ _).alloc (Nat.le_refl _) _
        have hNX := HX.out.below hX1
        have hop := open_in hNX.sc HI.out.2.2.1 HI.out.2.2.2 hAt (fun q => by have := HX.out.sc.lt _ q; omega) (by have := HW.out; simp; omega)
        have H1 : Hid _ := And.intro hop hNX
        clear hop hNX hAt hX1
        go_wp2_with fail
        refine Calls.mono H1.out.1 ?_
        rintro e w6 ⟨sa, sc, rfl, hf6, O6, hO6, hS6⟩
        have hN6 : NI w w1.heap.size O6 (ws ++ [s]) ws (.slice va ws.length vc) w6 := H1.out.2.ofro hf6 hO6 (by rw [List.reverse_append]; exact hS6)
        have hb8 : ∀ o o', Below w6.heap.size w6 ((w6.alloc o).alloc o') := fun o o' => ((Below.refl _ _).alloc (Nat.le_refl _) o).alloc (by simp) o'
        have hN8 := fun o o' => hN6.below (hb8 o o')
        have hz6 := hN6.b.size
        have hT8 := xa2 w6 (.cells #[.string s, .string ⟨#[97]⟩, .slice sa 0 sc, .int .i64 0] 40) (.cells #[.string s] 9)
        have hne8 := row_ne (hN8 _ _).row hT8 (by decide)
        have H6 : Hid _ := And.intro hN6 (And.intro hN8 (And.intro hT8 hne8))
        clear hN6 hN8 hb8 hT8 hne8 hS6 hf6 hO6 H1 HX
        go_wp2_with (first | (at_builtin; refine wpList_append_lies _ rfl (.tmp 51) (.tmp 53) 76 rfl w.heap.size 9 i9 z9 1 16 Try.underlying76 hi9 hz0 hz1 hz3 hzc (by decide) (.slice va ws.length vc) ws.length (ws.map Value.string) rfl (H6.out.2.1 _ _).row ⟨w6.heap.size + 1, 0, none⟩ 1 1 [.string s] rfl rfl (World.news_of_block (by have := nw_heap (w6.alloc (.cells #[.string s, .string ⟨#[97]⟩, .slice sa 0 sc, .int .i64 0] 40)) (.cells #[.string s] 9); rw [sza] at this; exact this)) (by intro u hu; simp at hu; subst hu; rfl) (by decide) (by have := HW.out; unfold maxLen; omega) (by have := HW.out; omega) (by simp only [sza]; omega) _ rfl ?_; intro g2 cap2 w7 hown7 hg7 hat7 hlt7; have T7 := grown_o hg7 H6.out.2.2.1 H6.out.2.2.2; obtain ⟨⟨t0, t1, t2, t3⟩, _⟩ := bl4 T7; have H7 : Hid _ := And.intro hown7 (And.intro hg7 hat7); clear hown7 hg7 hat7 T7))
        go_roundg m
        case measure => omega
        case rel => exact ⟨i + 1, ws ++ [s], O6, rfl, by omega, HI.out.2.1.symm, by have := NI.app (H6.out.2.1 _ _) H7.out.1 H7.out.2.1 H7.out.2.2; simpa using this⟩
      · have HI2 := HI.out
        rw [wsp_no hc4] at HI2
        clear HI
        have HI : Hid _ := HI2
        clear HI2
        go_upto_region 13 with fail
        have HX : Hid _ := HI.out.1
        obtain ⟨X, hXX⟩ : ∃ X, X = wr := ⟨_, rfl⟩
        rw [← hXX] at HX ⊢
        clear hXX
        have hAt : AtO (X.alloc (.cells #[.string ⟨#[120, 109, 108, 110, 115]⟩, .string ⟨#[]⟩, .int .i64 0] 72)) (some ⟨X.heap.size, 0, none⟩) [(⟨#[120, 109, 108, 110, 115]⟩, ⟨#[]⟩, 0)] := .inr ⟨_, _, rfl, AtR.of_block (nw_heap _ _) rfl (by simp [maxLen]) (by intro x hx; simp at hx; subst hx; show (⟨#[120, 109, 108, 110, 115]⟩ : ByteArray).size ≤ maxLen; decide)⟩
        have hX1 : Below X.heap.size X (X.alloc (.cells #[.string ⟨#[120, 109, 108, 110, 115]⟩, .string ⟨#[]⟩, .int .i64 0] 72)) := (Below.refl _ _).alloc (Nat.le_refl _) _
        have hNX := HX.out.below hX1
        have hop := open_in hNX.sc HI.out.2.2.1 HI.out.2.2.2 hAt (fun q => by have := HX.out.sc.lt _ q; omega) (by have := HW.out; simp; omega)
        have H1 : Hid _ := And.intro hop hNX
        clear hop hNX hAt hX1
        go_wp2_with fail
        refine Calls.mono H1.out.1 ?_
        rintro e w6 ⟨sa, sc, rfl, hf6, O6, hO6, hS6⟩
        have hN6 : NI w w1.heap.size O6 (ws ++ [⟨#[]⟩]) ws (.slice va ws.length vc) w6 := H1.out.2.ofro hf6 hO6 (by rw [List.reverse_append]; exact hS6)
        have hb8 : ∀ o o', Below w6.heap.size w6 ((w6.alloc o).alloc o') := fun o o' => ((Below.refl _ _).alloc (Nat.le_refl _) o).alloc (by simp) o'
        have hN8 := fun o o' => hN6.below (hb8 o o')
        have hz6 := hN6.b.size
        have hT8 := xa2 w6 (.cells #[.string ⟨#[]⟩, .string ⟨#[97]⟩, .slice sa 0 sc, .int .i64 0] 40) (.cells #[.string ⟨#[]⟩] 9)
        have hne8 := row_ne (hN8 _ _).row hT8 (by decide)
        have H6 : Hid _ := And.intro hN6 (And.intro hN8 (And.intro hT8 hne8))
        clear hN6 hN8 hb8 hT8 hne8 hS6 hf6 hO6 H1 HX
        go_wp2_with (first | (at_builtin; refine wpList_append_lies _ rfl (.tmp 51) (.tmp 53) 76 rfl w.heap.size 9 i9 z9 1 16 Try.underlying76 hi9 hz0 hz1 hz3 hzc (by decide) (.slice va ws.length vc) ws.length (ws.map Value.string) rfl (H6.out.2.1 _ _).row ⟨w6.heap.size + 1, 0, none⟩ 1 1 [.string ⟨#[]⟩] rfl rfl (World.news_of_block (by have := nw_heap (w6.alloc (.cells #[.string ⟨#[]⟩, .string ⟨#[97]⟩, .slice sa 0 sc, .int .i64 0] 40)) (.cells #[.string ⟨#[]⟩] 9); rw [sza] at this; exact this)) (by intro u hu; simp at hu; subst hu; rfl) (by decide) (by have := HW.out; unfold maxLen; omega) (by have := HW.out; omega) (by simp only [sza]; omega) _ rfl ?_; intro g2 cap2 w7 hown7 hg7 hat7 hlt7; have T7 := grown_o hg7 H6.out.2.2.1 H6.out.2.2.2; obtain ⟨⟨t0, t1, t2, t3⟩, _⟩ := bl4 T7; have H7 : Hid _ := And.intro hown7 (And.intro hg7 hat7); clear hown7 hg7 hat7 T7))
        go_roundg m
        case measure => omega
        case rel => exact ⟨i + 1, ws ++ [⟨#[]⟩], O6, rfl, by omega, HI.out.2.1.symm, by have := NI.app (H6.out.2.1 _ _) H7.out.1 H7.out.2.1 H7.out.2.2; simpa using this⟩
    · obtain rfl : i = l.length := by omega
      have hgk : gk = 0 := by omega
      subst hgk
      have hwl := HW.out
      have hni' : NI w w1.heap.size O (ws.take l.length) ws (.slice va ws.length vc) wr := by rw [← hwl, List.take_length]; exact hni
      have HI : Hid _ := hni'
      clear hni hni' hws HN cv1
      rw [hwl]
      go_wp2_with fail
      go_loopg [10] l.length (fun m v10 wr => ∃ O : Nat → Prop, m ≤ l.length ∧ v10 = .int .i64 ((m : Int) - 1) ∧ NI w w1.heap.size O (ws.take m) ws (.slice va ws.length vc) wr)
      case atStart => exact ⟨O, Nat.le_refl _, rfl, HI.out⟩
      case round =>
        obtain ⟨O2, hm, rfl, hni2⟩ := hrel
        clear HI
        rcases gk with _ | m
        · have hd := depth_sc hni2.sc
          have hbi := binds_s sO sN hni2.sc (lS_len _)
          have H2 : Hid _ := And.intro hni2 (And.intro hd hbi)
          clear hni2 hd hbi
          go_wp2_with (first | (go_at_call 20; refine Calls.mono H2.out.2.1 ?_; rintro e w' ⟨rfl, rfl⟩))
          refine Calls.mono H2.out.2.2 ?_
          rintro e w9 ⟨v, bl, rfl, hp, _, hr9, hb9⟩
          have hbl : bl = [] := List.perm_nil.1 hp
          subst hbl
          obtain ⟨ra, rc, rfl⟩ := row_form hr9
          have H9 : Hid _ := H2.out.1.b.trans (hb9.mono H2.out.1.b.size)
          clear hr9 hb9 hp
          go_wp2_with fail
          go_ret
          exact ⟨rfl, H9.out⟩
        · have hmw : m < ws.length := by omega
          have htk : (ws.take (m + 1)).reverse = ws[m]'hmw :: (ws.take m).reverse := by
            rw [List.take_add_one, List.getElem?_eq_getElem hmw, List.reverse_append]
            rfl
          have hget : (ws.map Value.string)[m]? = some (.string (ws[m]'hmw)) := by
            rw [List.getElem?_map, List.getElem?_eq_getElem hmw]
            rfl
          have hsc := hni2.sc
          rw [htk] at hsc
          generalize ws[m]'hmw = s at *
          have hev : ((m + 1 : Nat) : Int) - 1 = (m : Int) := by omega
          rw [hev]
          rcases hni2.row.2 with ⟨_, e0'⟩ | ⟨g, gc, cur, e1', hgb, hgc, _⟩
          · omega
          simp only [Value.slice.injEq] at e1'
          obtain ⟨rfl, _, rfl⟩ := e1'
          have hcw := hni2.row.cells (g := g) rfl m _ hget
          rw [addr_add0] at hcw
          have hgl := lt_of hgc
          have hsp := space_sc hsc e0
          rw [space_in] at hsp
          have H2 : Hid _ := And.intro hni2 (And.intro hsc (And.intro hsp (And.intro hcw htk)))
          clear hni2 hsc hsp hcw hgc hget htk hev
          go_wp2_with fail
          refine Calls.mono H2.out.2.2.1 ?_
          rintro e w3 ⟨rfl, hb3⟩
          have hbi := binds_s sO sN (H2.out.2.1.below hb3) (lS_len _)
          have hz3 := hb3.size
          have H3 : Hid _ := And.intro hb3 hbi
          clear hb3 hbi
          go_wp2_with fail
          refine Calls.mono H3.out.2 ?_
          rintro e w4 ⟨v, bl, rfl, hp, _, hr4, hb4⟩
          obtain ⟨ra, rc, rfl⟩ := row_form hr4
          have hbl : bl.length = if s.toList = [] then 0 else 1 := hp.length_eq.trans (filtc s _)
          have hb34 := H3.out.1.trans (hb4.mono hz3)
          have hcl := close_in (H2.out.2.1.below hb34) (by simp; omega)
          have hcw := (hb34.cell (p := ⟨g, m, none⟩) hgl).trans H2.out.2.2.2.1
          have hz4 := hb34.size
          have H4 : Hid _ := And.intro hb34 hcl
          clear hb34 hcl hr4 hb4 hp H3
          generalize bl.length = bn at *
          have hback : ∀ w5 : World, SC O2 w5 w1.heap.size (lS (ws.take m).reverse) (hS (ws.take m).reverse) → Fro O2 w4 w5 → NI w w1.heap.size O2 (ws.take m) ws (.slice (some ⟨g, 0, none⟩) ws.length vc) w5 := fun w5 h1 h2 => (H2.out.1.below H4.out.1).ofro h2 (fun k hk => .inl hk) h1
          by_cases hs : s.toList = []
          · rw [if_pos hs] at hbl
            subst hbl
            have hs1 : (s.toList == []) = true := by simp [hs]
            have hs2 : s.toList.isEmpty = true := by simp [hs]
            have HB : Hid _ := hback
            clear hback
            go_wp2_with fail
            refine Calls.mono H4.out.2 ?_
            rintro e w5 ⟨rfl, h51, h52⟩
            have H5 : Hid _ := HB.out w5 h51 h52
            clear h51 h52
            go_wp2_with fail
            go_roundg m
            case measure => omega
            case rel => exact ⟨O2, by omega, rfl, H5.out⟩
          · rw [if_neg hs] at hbl
            subst hbl
            have hs1 : (s.toList == []) = false := by simpa using hs
            have hs2 : s.toList.isEmpty = false := by simpa using hs
            have HB : Hid _ := hback
            clear hback
            go_wp2_with fail
            refine Calls.mono H4.out.2 ?_
            rintro e w5 ⟨rfl, h51, h52⟩
            have H5 : Hid _ := HB.out w5 h51 h52
            clear h51 h52
            go_wp2_with fail
            go_roundg m
            case measure => omega
            case rel => exact ⟨O2, by omega, rfl, H5.out⟩
end Go.Proofs.Ytgidbmiahckleaa
