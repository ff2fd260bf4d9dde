/- Binds: what is bound, gathered; the sort is taken by what is said of it (SortOk). -/
import Derived.Test.YtgidbmiahckleaaNs13
namespace Go.Proofs.Ytgidbmiahckleaa
open Go.RowKit
set_option linter.unusedVariables false

def bc (p : ByteArray × ByteArray) : List Value := [.string p.1, .string p.2]
def nonE (p : ByteArray × ByteArray) : Bool := !p.2.toList.isEmpty
/-- Rising by the prefixes. -/
def Srt (l : Bs) : Prop := l.Pairwise fun p q => ¬ Lib.compareBytes q.1.data.toList p.1.data.toList < 0
/-- What is said of the sort. -/
def SortOk : Prop := ∀ (l : Bs) (g cap base : Nat) (w : World), w.ownsRow base 68 2 (.slice (some ⟨g, 0, none⟩) l.length cap) l.length (l.flatMap bc) → l.length ≤ 1000000 →
  Calls Try.prog 34 #[.slice (some ⟨g, 0, none⟩) l.length cap, .func (.func 35) #[] #[]] w fun e w' => e = .returned (.tuple #[]) ∧ ∃ l' : Bs, l'.Perm l ∧ Srt l' ∧ w'.ownsRow base 68 2 (.slice (some ⟨g, 0, none⟩) l.length cap) l.length (l'.flatMap bc) ∧ Fro (fun k => k = g) w w'
def SortNil : Prop := ∀ (w : World), Calls Try.prog 34 #[.slice none 0 0, .func (.func 35) #[] #[]] w fun e w' => e = .returned (.tuple #[]) ∧ Below w.heap.size w w'
abbrev som (l : Bs) : Hs := l.map fun p => (p.1, some p.2)
theorem hbv_som (l : Bs) : hbv (som l) = bnd l := by
  unfold hbv bnd
  rw [List.map_map]
  rfl
theorem now_hid {w : World} {v : Value} {l : Bs} (h : NowAt w v l) : HidAt w v (som l) := by
  rcases h with ⟨h1, rfl⟩ | ⟨b, h1, h2⟩
  · exact .inl ⟨h1, rfl⟩
  · exact .inr ⟨b, h1, by rw [hbv_som]; exact h2⟩
theorem som_split : ∀ {l : Bs} {A : Hs} {p : ByteArray × Option ByteArray} {B : Hs}, som l = A ++ p :: B → ∃ A' x B', l = A' ++ x :: B' ∧ A = som A' ∧ p = (x.1, some x.2) ∧ B = som B' := by
  intro l A p B h
  obtain ⟨l1, l2, rfl, h1, h2⟩ := List.map_eq_append_iff.1 h
  obtain ⟨x, l3, rfl, h3, h4⟩ := List.map_eq_cons_iff.1 h2
  exact ⟨l1, x, l3, rfl, h1.symm, h3.symm, h4.symm⟩
theorem info68 : (Try.prog.info? 68).map (fun i => (i.zero.map fun z => z.cells.size, i.size, i.bytes)) = some (some 2, 2, 32) := by kernel_rfl
theorem info68p : ∃ i z, Try.prog.info? 68 = some i ∧ i.zero = some z ∧ z.cells.size = 2 ∧ i.size = 2 ∧ i.bytes = 32 := by
  have := info68
  cases h : Try.prog.info? 68 with
  | none => rw [h] at this; simp at this
  | some i =>
    rw [h] at this
    simp at this
    obtain ⟨⟨z, h1, h2⟩, h3, h4⟩ := this
    exact ⟨i, z, rfl, h1, h2, h3, h4⟩
/-- Where Binds stands. -/
structure GI (w : World) (r : Nat) (hb : Option Nat) (l acc lf : Bs) (v : Value) (wr : World) : Prop where
  it : It wr r hb (som lf)
  perm : (acc ++ lf.filter nonE).Perm (l.filter nonE)
  len : acc.length + lf.length ≤ l.length
  row : wr.ownsRow w.heap.size 68 2 v acc.length (acc.flatMap bc)
  hbl : ∀ b, hb = some b → b < w.heap.size
  fro : Below w.heap.size w wr
theorem It.below {w w' : World} {r : Nat} {hb : Option Nat} {lf : Hs} (h : It w r hb lf) (hb' : Below w.heap.size w w') : It w' r hb lf := h.fro (Fro.below (O := fun _ => False) hb') (fun q => q) (fun _ _ q => q)
theorem It.lt {w : World} {r : Nat} {hb : Option Nat} {lf : Hs} (h : It w r hb lf) : r < w.heap.size := by
  rcases h with ⟨_, _, h⟩ | ⟨b, arr, clk, seen, _, h, _⟩ <;> exact lt_of h
theorem row_iter {w : World} {base n size r : Nat} {e : TypeId} {v : Value} {xs : List Value} {hb : Option Nat} {lf : Hs} (h : w.ownsRow base e size v n xs) (hm : It w r hb lf) : v.ownBlock ≠ some r := by
  obtain ⟨h1, h2⟩ := h
  rcases h2 with ⟨rfl, _⟩ | ⟨g, cap, cur, rfl, h3, h4, h5, h6, h7, h8⟩
  · simp [Value.ownBlock]
  · intro q
    simp [Value.ownBlock] at q
    subst q
    rcases hm with ⟨_, _, h⟩ | ⟨b, arr, clk, seen, _, h, _⟩ <;> (rw [h4] at h; cases h)
theorem row_itb {w : World} {base n size r : Nat} {e : TypeId} {v : Value} {xs : List Value} {hb : Option Nat} {lf : Hs} (h : w.ownsRow base e size v n xs) (hm : It w r hb lf) : ∀ b, hb = some b → v.ownBlock ≠ some b := by
  intro b hbb
  obtain ⟨h1, h2⟩ := h
  rcases h2 with ⟨rfl, _⟩ | ⟨g, cap, cur, rfl, h3, h4, h5, h6, h7, h8⟩
  · simp [Value.ownBlock]
  · intro q
    simp [Value.ownBlock] at q
    subst q
    rcases hm with ⟨h, _⟩ | ⟨b', arr, clk, seen, h, _, h', _⟩
    · rw [h] at hbb; simp at hbb
    · rw [h] at hbb; simp at hbb; rw [hbb, h4] at h'; cases h'
/-- A round that passes one by. -/
theorem GI.skip {w wr W1 W2 : World} {hb : Option Nat} {l acc A B : Bs} {x : ByteArray × ByteArray} {v : Value} (h : GI w w.heap.size hb l acc (A ++ x :: B) v wr) (h4 : It W1 w.heap.size hb (som A ++ som B)) (h5 : Fro (fun j => j = w.heap.size) wr W1) (hx : nonE x = false) (h2 : Below W1.heap.size W1 W2) : GI w w.heap.size hb l acc (A ++ B) v W2 := by
  have hb1 : Below w.heap.size w W1 := h.fro.trans ⟨h5.os, h5.tape, h5.output, h5.size, fun k hk => h5.block k (by have := h.fro.size; omega) (by omega)⟩
  refine ⟨(by rw [som, List.map_append]; exact h4.below h2), ?_, ?_, row_below (row_fro h.row h5 (fun k e q => row_iter h.row h.it (by rw [← q]; exact e))) h2, h.hbl, hb1.trans (h2.mono hb1.size)⟩
  · have := h.perm
    rw [List.filter_append, List.filter_cons, hx] at this
    rw [List.filter_append]
    simpa using this
  · have := h.len
    simp at this ⊢
    omega
/-- A round that takes one. -/
theorem GI.take {w wr W1 W2 w7 : World} {hb : Option Nat} {l acc A B : Bs} {x : ByteArray × ByteArray} {v : Value} {g2 cap2 : Nat} (h : GI w w.heap.size hb l acc (A ++ x :: B) v wr) (h4 : It W1 w.heap.size hb (som A ++ som B)) (h5 : Fro (fun j => j = w.heap.size) wr W1) (hx : nonE x = true) (h2 : Below W1.heap.size W1 W2) (hr : w7.ownsRow w.heap.size 68 2 (.slice (some ⟨g2, 0, none⟩) (acc.length + 1) cap2) (acc.length + 1) (acc.flatMap bc ++ bc x)) (hg : W2.grownBy w7 v.ownBlock) : GI w w.heap.size hb l (acc ++ [x]) (A ++ B) (.slice (some ⟨g2, 0, none⟩) (acc.length + 1) cap2) w7 := by
  have hb1 : Below w.heap.size w W1 := h.fro.trans ⟨h5.os, h5.tape, h5.output, h5.size, fun k hk => h5.block k (by have := h.fro.size; omega) (by omega)⟩
  have hrow1 := row_fro h.row h5 (fun k e q => row_iter h.row h.it (by rw [← q]; exact e))
  have hb2 := hb1.trans (h2.mono hb1.size)
  have hit2 := h4.below h2
  have hrow2 := row_below hrow1 h2
  have hit7 : It w7 w.heap.size hb (som A ++ som B) := hit2.fro (O := fun k => v.ownBlock = some k) (Fro.grown hg (fun k e => e)) (row_iter hrow2 hit2) (row_itb hrow2 hit2)
  refine ⟨(by rw [som, List.map_append]; exact hit7), ?_, ?_, by simpa using hr, h.hbl, hb2.grown hg hb2.size (fun k e => (row_base h.row k e).1)⟩
  · have := h.perm
    rw [List.filter_append, List.filter_cons, hx, if_pos rfl] at this
    rw [List.filter_append]
    refine List.Perm.trans ?_ this
    rw [List.append_assoc]
    refine List.Perm.append_left _ ?_
    show (x :: (A.filter nonE ++ B.filter nonE)).Perm _
    exact List.perm_middle.symm
  · have := h.len
    simp at this ⊢
    omega
set_option maxRecDepth 100000 in
set_option maxHeartbeats 1600000 in
theorem binds_s (sO : SortOk) (sN : SortNil) {O : Nat → Prop} {w : World} {P : Nat} {l : Bs} {hs : List Hs} (hS : SC O w P l hs) (hl : l.length ≤ 1000000) :
    Calls Try.prog 22 #[.pointer (some ⟨P, 0, none⟩)] w fun e w' => ∃ v bl, e = .returned v ∧ bl.Perm (l.filter nonE) ∧ Srt bl ∧ w'.ownsRow w.heap.size 68 2 v bl.length (bl.flatMap bc) ∧ Below w.heap.size w w' := by
  obtain ⟨nv, hv, xs, s1, s2, _⟩ := hS.ex
  have c0 : w.cell? ⟨P, 0, none⟩ = some nv := sc_cell (i := 0) s1
  obtain ⟨X, hb, hrg, rfl, hit⟩ := It.start (now_hid s2)
  have hPl := lt_of s1
  have hbl : ∀ b, hb = some b → b < w.heap.size := fun b e => by
    subst e
    exact s2.map.lt
  have hbel : Below w.heap.size w (w.alloc X) := (Below.refl _ _).alloc (Nat.le_refl _) _
  have hg0 : GI w w.heap.size hb l [] l (.slice none 0 0) (w.alloc X) := ⟨hit, List.Perm.refl _, by simp, ⟨rfl, .inl ⟨rfl, rfl⟩⟩, hbl, hbel⟩
  obtain ⟨i68, z68, hi68, hz0, hzc, hz1, hz3⟩ := info68p
  have HH : Hid _ := hg0
  clear hg0 hit hbel s1 s2 hS hbl
  go_enter Try.func22, Try.ntmps22
  go_wp2_with fail
  go_loopg [3, 4] l.length (fun m v3 v4 wr => ∃ acc lf, lf.length = m ∧ GI w w.heap.size hb l acc lf v3 wr)
  case atStart => exact ⟨[], l, rfl, HH.out⟩
  case round =>
    obtain ⟨acc, lf, hm, hgi⟩ := hrel
    obtain ⟨va, vc, rfl⟩ := row_form hgi.row
    rcases hgi.it.next 0 with ⟨he, hx⟩ | ⟨A, p, B, W1, he, h2, h3, h4, h5⟩
    · have hlf : lf = [] := by simpa using he
      subst hlf
      rcases hgi.row.2 with ⟨e1, e2⟩ | ⟨g, cap, cur, e1, hgb, hgc, _⟩
      · simp at e1
        obtain ⟨rfl, e3, rfl⟩ := e1
        have HG : Hid _ := hgi
        clear hgi
        rw [e2]
        have hsn := sN wr
        go_wp2_with fail
        refine Calls.mono hsn ?_
        rintro e w9 ⟨rfl, hb9⟩
        go_wp2_with fail
        go_ret
        have hacc : acc = [] := List.eq_nil_of_length_eq_zero e2
        have hp := HG.out.perm
        rw [hacc] at hp
        exact ⟨_, [], rfl, by simpa using hp, .nil, ⟨rfl, .inl ⟨rfl, rfl⟩⟩, HG.out.fro.trans (hb9.mono HG.out.fro.size)⟩
      · simp at e1
        obtain ⟨rfl, rfl⟩ := e1
        have hln := hgi.len
        have hso := sO acc g vc w.heap.size wr hgi.row (by simp at hln; omega)
        have HG : Hid _ := And.intro hgi hso
        clear hgi hso
        go_wp2_with fail
        refine Calls.mono HG.out.2 ?_
        rintro e w9 ⟨rfl, l', hp, hs9, hr9, hf9⟩
        go_wp2_with fail
        go_ret
        have hp2 := HG.out.1.perm
        have hl9 := hp.length_eq
        refine ⟨_, l', rfl, hp.trans (by simpa using hp2), hs9, by rw [hl9]; exact hr9, HG.out.1.fro.trans ⟨hf9.os, hf9.tape, hf9.output, hf9.size, fun k hk => hf9.block k (by have := HG.out.1.fro.size; omega) (by omega)⟩⟩
    · obtain ⟨A', x, B', rfl, rfl, rfl, rfl⟩ := som_split he
      obtain ⟨xk, xs'⟩ := x
      dsimp only [hv2] at *
      obtain ⟨m, rfl⟩ : ∃ m, gk = m + 1 := ⟨gk - 1, by simp at hm; omega⟩
      have hlen := hgi.len
      simp only [List.length_append, List.length_cons] at hm hlen
      have hb1 : Below w.heap.size w W1 := hgi.fro.trans ⟨h5.os, h5.tape, h5.output, h5.size, fun k hk => h5.block k (by have := hgi.fro.size; omega) (by omega)⟩
      have hrow1 := row_fro hgi.row h5 (fun k e q => row_iter hgi.row hgi.it (by rw [← q]; exact e))
      have hz1' := hb1.size
      have hb3 : ∀ o o', Below W1.heap.size W1 ((W1.alloc o).alloc o') := fun o o' => ((Below.refl _ _).alloc (Nat.le_refl _) o).alloc (by simp) o'
      have hb2 : ∀ o, Below W1.heap.size W1 (W1.alloc o) := fun o => (Below.refl _ _).alloc (Nat.le_refl _) o
      have HG : Hid _ := And.intro hgi (And.intro h4 (And.intro h5 (And.intro hrow1 (And.intro hb2 hb3))))
      clear hgi h4 h5 hrow1 hb2 hb3 hb1
      by_cases hxe : xs'.toList = []
      · have hxb : (xs'.toList == []) = true := by simp [hxe]
        have hxi : xs'.toList.isEmpty = true := by simp [hxe]
        go_wp2_with fail
        go_roundg m
        case measure => omega
        case rel => exact ⟨acc, A' ++ B', by simp; omega, GI.skip HG.out.1 HG.out.2.1 HG.out.2.2.1 (by simp [nonE, hxi]) (HG.out.2.2.2.2.1 _)⟩
      · have hxb : (xs'.toList == []) = false := by simpa using hxe
        have hxi : xs'.toList.isEmpty = false := by simpa using hxe
        go_wp2_with (first | (at_builtin; refine wpList_append_lies _ rfl (.tmp 19) (.tmp 24) 62 rfl w.heap.size 68 i68 z68 2 32 Try.underlying62 hi68 hz0 hz1 hz3 hzc (by decide) (.slice va acc.length vc) acc.length (acc.flatMap bc) rfl (row_below HG.out.2.2.2.1 (HG.out.2.2.2.2.2 _ _)) ⟨W1.heap.size + 1, 0, none⟩ 1 1 (bc (xk, xs')) rfl rfl (World.news_of_block (by have := nw_heap (W1.alloc (.cells #[.string xs', .bool true] 83)) (.cells #[.string xk, .string xs'] 68); rw [sza] at this; exact this)) (by intro u hu; simp [bc] at hu; rcases hu with rfl | rfl <;> rfl) (by decide) (by unfold maxLen; omega) (by omega) (by simp only [sza]; omega) _ rfl ?_; intro g2 cap2 w7 hown7 hg7 hat7 hlt7; have H7 : Hid _ := And.intro hown7 hg7; clear hown7 hg7 hat7))
        go_roundg m
        case measure => omega
        case rel => exact ⟨acc ++ [(xk, xs')], A' ++ B', by simp; omega, by have := GI.take HG.out.1 HG.out.2.1 HG.out.2.2.1 (by simp [nonE, hxi]) (HG.out.2.2.2.2.2 _ _) H7.out.1 H7.out.2; simpa using this⟩
end Go.Proofs.Ytgidbmiahckleaa
