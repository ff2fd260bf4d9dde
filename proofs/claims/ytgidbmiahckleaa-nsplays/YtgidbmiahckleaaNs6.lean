/- bind: an element's own bindings. -/
import Derived.Test.YtgidbmiahckleaaNs5
import Derived.Carry
import Derived.Deep.LoopGhost
import Derived.Deep.DeepCutAuto
import Derived.Deep.AppendLies
import Derived.Maps.AppendAt
namespace Go.Proofs.Ytgidbmiahckleaa
open Go.RowKit
set_option linter.unusedVariables false

/-- An event's attributes in memory. -/
def AtR (w : World) (g off : Nat) (ats : List (ByteArray × ByteArray × Int)) : Prop :=
  g < w.heap.size ∧ ats.length ≤ maxLen ∧ ∀ i (hi : i < ats.length), w.cell? ⟨g, off + i * 3, none⟩ = some (.string (ats[i]'hi).1) ∧ w.cell? ⟨g, off + i * 3 + 1, none⟩ = some (.string (ats[i]'hi).2.1) ∧ w.cell? ⟨g, off + i * 3 + 2, none⟩ = some (.int .i64 (ats[i]'hi).2.2) ∧ (ats[i]'hi).1.size ≤ maxLen
def ps (ats : List (ByteArray × ByteArray × Int)) : List (ByteArray × ByteArray) := ats.map fun a => (a.1, a.2.1)
/-- Where bind stands, i attributes on. -/
structure BI (O : Nat → Prop) (w : World) (P : Nat) (hv : Value) (st : List (ByteArray × ByteArray) × List (ByteArray × Option ByteArray)) (v4 : Value) (wr : World) : Prop where
  sc : ∃ nv, ScB wr P nv hv ∧ NowAt wr nv st.1 ∧ (∀ b, nv = .map (some b) → (O b ∨ w.heap.size ≤ b) ∧ v4 ≠ .map (some b))
  hid : HidAt wr v4 st.2
  new : ∀ b, v4 = .map (some b) → w.heap.size ≤ b
  fro : Fro O w wr
theorem Fro.cell {O : Nat → Prop} {w w' : World} (h : Fro O w w') {g i : Nat} (hg : g < w.heap.size) (hO : ¬ O g) : w'.cell? ⟨g, i, none⟩ = w.cell? ⟨g, i, none⟩ := by
  simp only [World.cell?]
  rw [h.block g hg hO]
theorem HidAt.below {w w' : World} {v : Value} {l : List (ByteArray × Option ByteArray)} (h : HidAt w v l) (hb : Below w.heap.size w w') : HidAt w' v l := by
  rcases h with h | ⟨b, h1, h2⟩
  · exact .inl h
  · exact .inr ⟨b, h1, h2.below hb⟩
theorem BI.below {O : Nat → Prop} {w : World} {P : Nat} {hv : Value} {st : List (ByteArray × ByteArray) × List (ByteArray × Option ByteArray)} {v4 : Value} {wr wr' : World} (h : BI O w P hv st v4 wr) (hb : Below wr.heap.size wr wr') : BI O w P hv st v4 wr' := by
  obtain ⟨⟨nv, h1, h2, h3⟩, h4, h5, h6⟩ := h
  exact ⟨⟨nv, h1.below hb, h2.below hb, h3⟩, h4.below hb, h5, h6.trans (Fro.below hb)⟩
theorem BI.now {O : Nat → Prop} {w : World} {P : Nat} {hv : Value} {st : List (ByteArray × ByteArray) × List (ByteArray × Option ByteArray)} {v4 : Value} {wr : World} (h : BI O w P hv st v4 wr) : ∃ o, v4 = .map o := by
  rcases h.hid with ⟨h1, _⟩ | ⟨b, h1, _⟩ <;> exact ⟨_, h1⟩
theorem take_ps (ats : List (ByteArray × ByteArray × Int)) (i : Nat) (hi : i < ats.length) (st : List (ByteArray × ByteArray) × List (ByteArray × Option ByteArray)) : ((ps ats).take (i + 1)).foldl bstep st = bstep (((ps ats).take i).foldl bstep st) ((ats[i]'hi).1, (ats[i]'hi).2.1) := by
  have hl : i < (ps ats).length := by simp [ps]; exact hi
  rw [List.take_add_one, List.getElem?_eq_getElem hl]
  simp [ps]
theorem alM (W : World) : MapAt (W.alloc (.map #[] 0)) W.heap.size [] := ⟨#[], 0, nw_heap W _, rfl, by simp [Bok]⟩
theorem BI.mk_hid {O : Nat → Prop} {w : World} {P : Nat} {hv : Value} {st : List (ByteArray × ByteArray) × List (ByteArray × Option ByteArray)} {W : World} (h : BI O w P hv st (.map none) W) : BI O w P hv st (.map (some W.heap.size)) (W.alloc (.map #[] 0)) := by
  have hb : Below W.heap.size W (W.alloc (.map #[] 0)) := (Below.refl _ _).alloc (Nat.le_refl _) _
  obtain ⟨⟨nv, h1, h2, h3⟩, h4, h5, h6⟩ := h
  refine ⟨⟨nv, h1.below hb, h2.below hb, fun b e => ⟨(h3 b e).1, fun q => ?_⟩⟩, ?_, ?_, h6.trans (Fro.below hb)⟩
  · simp at q
    rcases h2 with ⟨h, _⟩ | ⟨b', h, hm⟩
    · rw [h] at e; simp at e
    · rw [h] at e; simp at e
      have := hm.lt
      omega
  · rcases h4 with ⟨_, h⟩ | ⟨b, h, _⟩
    · rw [h]
      exact .inr ⟨_, rfl, alM W⟩
    · simp at h
  · intro b e
    simp at e
    rw [← e]
    exact h6.size
theorem setP {W : World} {P : Nat} {x y : Value} (u : Value) (h : ScB W P x y) : W.grownBy (W.setCell ⟨P, 0, none⟩ u) (some P) ∧ ScB (W.setCell ⟨P, 0, none⟩ u) P u y := by
  refine ⟨⟨rfl, rfl, rfl, by simp [World.setCell], fun k hk hne => ?_⟩, bset (i := 0) h u⟩
  have hk : P ≠ k := fun e => hne (by rw [e])
  simp [World.setCell, Array.getElem?_modify, hk]
theorem MapAt.grown {w w' : World} {b : Nat} {o : Option Nat} {es : List (ByteArray × Value)} (h : MapAt w b es) (hb : w.grownBy w' o) (hn : o ≠ some b) : MapAt w' b es := by
  have hl := h.lt
  obtain ⟨arr, clk, h1, h2⟩ := h
  obtain ⟨_, _, _, _, h5⟩ := hb
  exact ⟨arr, clk, (h5 b hl (fun q => hn q.symm)).trans h1, h2⟩
theorem BI.mk_now {O : Nat → Prop} {w : World} {P : Nat} {hv v4 : Value} {st : List (ByteArray × ByteArray) × List (ByteArray × Option ByteArray)} {W : World} (h : BI O w P hv st v4 W) (hP : ScB W P (.map none) hv) (hO : O P) :
    BI O w P hv st v4 ((W.alloc (.map #[] 0)).setCell ⟨P, 0, none⟩ (.map (some W.heap.size))) ∧ ScB ((W.alloc (.map #[] 0)).setCell ⟨P, 0, none⟩ (.map (some W.heap.size))) P (.map (some W.heap.size)) hv := by
  have hb : Below W.heap.size W (W.alloc (.map #[] 0)) := (Below.refl _ _).alloc (Nat.le_refl _) _
  obtain ⟨hg, hs⟩ := setP (.map (some W.heap.size)) (hP.below hb)
  obtain ⟨⟨nv, h1, h2, h3⟩, h4, h5, h6⟩ := h
  have hPl : P < W.heap.size := (Array.getElem?_eq_some_iff.1 hP).1
  have hnv : nv = .map none := by
    have q := h1.symm.trans hP
    simp at q
    exact q
  subst hnv
  have hl : st.1 = [] := by
    rcases h2 with ⟨_, h⟩ | ⟨b, h, _⟩
    · exact h
    · simp at h
  have hfr : Fro O w ((W.alloc (.map #[] 0)).setCell ⟨P, 0, none⟩ (.map (some W.heap.size))) := (h6.trans (Fro.below hb)).trans (Fro.grown hg (fun k e => by simp at e; rw [← e]; exact hO))
  refine ⟨⟨⟨_, hs, .inr ⟨_, rfl, ?_⟩, fun b e => ⟨.inr ?_, fun q => ?_⟩⟩, ?_, h5, hfr⟩, hs⟩
  · rw [hl]
    exact (alM W).grown hg (by simp; omega)
  · simp at e
    rw [← e]
    exact h6.size
  · simp at e
    rcases h4 with ⟨h, _⟩ | ⟨b', h, hm⟩
    · rw [h] at q; simp at q
    · rw [h] at q; simp at q
      have := hm.lt
      omega
  · rcases h4 with h | ⟨b', h, hm⟩
    · exact .inl h
    · exact .inr ⟨b', h, (hm.below hb).grown hg (fun q => by simp at q; exact (hm.ne hP) q.symm)⟩
theorem hp_drewN (w : World) (k : Nat) : (w.drewN k).heap = w.heap := rfl
theorem Fro.drewN {O : Nat → Prop} (w : World) (k : Nat) : Fro O w (w.drewN k) := ⟨rfl, rfl, rfl, Nat.le_refl _, fun _ _ _ => rfl⟩
theorem BI.step {O : Nat → Prop} {w : World} {P hb nb : Nat} {hv : Value} {st : List (ByteArray × ByteArray) × List (ByteArray × Option ByteArray)} {W : World} (h : BI O w P hv st (.map (some hb)) W) (hP : ScB W P (.map (some nb)) hv) (p val : ByteArray) (hhas : has st.2 p = false) :
    ∃ V W5, (Instr.lookup 78 (.map (some nb)) (.string p) false).run Try.prog W = .ok V W ∧ (Instr.mapUpdate 78 (.map (some hb)) (.string p) V).run Try.prog W = .ok () W5 ∧ W.grownBy W5 (some hb) ∧ hb ≠ P ∧ ∀ k, ∃ W6, (Instr.mapUpdate 78 (.map (some nb)) (.string p) (.agg #[.string val, .bool true])).run Try.prog (W5.drewN k) = .ok () W6 ∧ BI O w P hv (setB st.1 p val, st.2 ++ [(p, spc st.1 p)]) (.map (some hb)) W6 := by
  obtain ⟨⟨nv, h1, h2, h3⟩, h4, h5, h6⟩ := h
  have hnv : nv = .map (some nb) := by
    have q := h1.symm.trans hP
    simp at q
    exact q
  subst hnv
  obtain ⟨hOn, hne⟩ := h3 nb rfl
  have hne' : hb ≠ nb := fun e => hne (by rw [e])
  have hmn : MapAt W nb (bnd st.1) := by
    rcases h2 with ⟨h, _⟩ | ⟨b, h, hm⟩
    · simp at h
    · simp at h
      rw [h]
      exact hm
  have hmh : MapAt W hb (hbv st.2) := by
    rcases h4 with ⟨h, _⟩ | ⟨b, h, hm⟩
    · simp at h
    · simp at h
      rw [h]
      exact hm
  have hlk := now_look (.inr ⟨nb, rfl, hmn⟩ : NowAt W (.map (some nb)) st.1) p
  obtain ⟨W5, r5, m5, g5⟩ := upd_map hmh p (match spc st.1 p with | some sp => .agg #[.string sp, .bool true] | none => zB)
  have hPh : hb ≠ P := hmh.ne hP
  have hPn : nb ≠ P := hmn.ne hP
  refine ⟨_, W5, hlk, r5, g5, hPh, fun k => ?_⟩
  have e5 : ScB W5 P (.map (some nb)) hv := by
    obtain ⟨_, _, _, _, g⟩ := g5
    exact (g P (Array.getElem?_eq_some_iff.1 hP).1 (by simp; exact fun e => hPh e.symm)).trans hP
  have n5 : MapAt W5 nb (bnd st.1) := hmn.grown g5 (by simp; exact hne')
  have hk := hp_drewN W5 k
  have n5k : MapAt (W5.drewN k) nb (bnd st.1) := by unfold MapAt at *; rw [hk]; exact n5
  have m5k : MapAt (W5.drewN k) hb (upd (hbv st.2) p (match spc st.1 p with | some sp => .agg #[.string sp, .bool true] | none => zB)) := by unfold MapAt at *; rw [hk]; exact m5
  have e5k : ScB (W5.drewN k) P (.map (some nb)) hv := by unfold ScB at *; rw [hk]; exact e5
  obtain ⟨W6, r6, m6, g6⟩ := upd_map n5k p (.agg #[.string val, .bool true])
  rw [upd_bnd] at m6
  have m7 := m5k.grown g6 (by simp; exact fun e => hne' e.symm)
  have m8 : MapAt W6 hb (hbv (st.2 ++ [(p, spc st.1 p)])) := by
    rw [← upd_hbv p (spc st.1 p) st.2 hhas]
    exact m7
  have f5 : Fro (fun b => b = hb ∨ b = nb) W W6 := ((Fro.grown g5 (fun j e => by simp at e; exact .inl e.symm)).trans (Fro.drewN W5 k)).trans (Fro.grown g6 (fun j e => by simp at e; exact .inr e.symm))
  have e6 : ScB W6 P (.map (some nb)) hv := by
    obtain ⟨_, _, _, _, g⟩ := g6
    exact (g P (Array.getElem?_eq_some_iff.1 e5k).1 (by simp; exact fun e => hPn e.symm)).trans e5k
  refine ⟨W6, r6, ⟨⟨_, e6, .inr ⟨nb, rfl, m6⟩, fun b e => ?_⟩, .inr ⟨hb, rfl, m8⟩, h5, h6.trans' f5 (fun j hj q => ?_)⟩⟩
  · simp at e
    subst e
    exact ⟨hOn, hne⟩
  · rcases q with rfl | rfl
    · have := h5 _ rfl; omega
    · rcases hOn with h | h
      · exact h
      · omega
theorem sza (w : World) (o : Obj) : (w.alloc o).heap.size = w.heap.size + 1 := by simp
theorem xa2 (wr : World) (a b : Obj) : ((wr.alloc a).alloc b).heap[wr.heap.size]? = some a := (((Below.refl (wr.alloc a).heap.size (wr.alloc a)).alloc (Nat.le_refl _) b).block _ (by simp)).trans (nw_heap wr a)
theorem xa3 (wr : World) (a b c : Obj) : (((wr.alloc a).alloc b).alloc c).heap[wr.heap.size]? = some a := (((Below.refl ((wr.alloc a).alloc b).heap.size ((wr.alloc a).alloc b)).alloc (Nat.le_refl _) c).block _ (by simp; omega)).trans (xa2 wr a b)
theorem xa4 (wr : World) (a b c d : Obj) : ((((wr.alloc a).alloc b).alloc c).alloc d).heap[wr.heap.size]? = some a := (((Below.refl (((wr.alloc a).alloc b).alloc c).heap.size (((wr.alloc a).alloc b).alloc c)).alloc (Nat.le_refl _) d).block _ (by simp; omega)).trans (xa3 wr a b c)
theorem setO {W : World} {P X : Nat} (h : P ≠ X) (u : Value) : (W.setCell ⟨P, 0, none⟩ u).heap[X]? = W.heap[X]? := by simp [World.setCell, Array.getElem?_modify, h]
theorem grown_at {w w' : World} {b k : Nat} {o : Obj} (h : w.grownBy w' (some b)) (hk : w.heap[k]? = some o) (hn : b ≠ k) : w'.heap[k]? = some o := by
  obtain ⟨_, _, _, _, g⟩ := h
  exact (g k (Array.getElem?_eq_some_iff.1 hk).1 (by simp; exact fun e => hn e.symm)).trans hk
theorem info78 : (Try.prog.info? 78).map (fun i => (i.zero, i.size, i.bytes)) = some (some (.map none), 1, 8) := by kernel_rfl
theorem info78p : ∃ i, Try.prog.info? 78 = some i ∧ i.zero = some (.map none) ∧ i.size = 1 ∧ i.bytes = 8 := by
  have := info78
  cases h : Try.prog.info? 78 with
  | none => rw [h] at this; simp at this
  | some i => rw [h] at this; simp at this; exact ⟨i, rfl, this.1, this.2.1, this.2.2⟩
theorem row_fro {O : Nat → Prop} {w w' : World} {base n size : Nat} {e : TypeId} {v : Value} {xs : List Value} (h : w.ownsRow base e size v n xs) (hf : Fro O w w') (hO : ∀ k, v.ownBlock = some k → ¬ O k) : w'.ownsRow base e size v n xs := by
  obtain ⟨h1, h2⟩ := h
  refine ⟨h1, ?_⟩
  rcases h2 with h | ⟨g, cap, cur, rfl, h3, h4, h5, h6, h7, h8⟩
  · exact .inl h
  · exact .inr ⟨g, cap, cur, rfl, h3, (hf.block g (Array.getElem?_eq_some_iff.1 h4).1 (hO g rfl)).trans h4, h5, h6, h7, h8⟩
theorem row_ne {w : World} {base n size P : Nat} {e t : TypeId} {v : Value} {xs : List Value} {cs : Array Value} {f : Nat × Nat} (h : w.ownsRow base e size v n xs) (hP : w.heap[P]? = some (.cells cs t f)) (het : e ≠ t) : v.ownBlock ≠ some P := by
  obtain ⟨h1, h2⟩ := h
  rcases h2 with ⟨rfl, _⟩ | ⟨g, cap, cur, rfl, h3, h4, h5, h6, h7, h8⟩
  · simp [Value.ownBlock]
  · intro q
    simp [Value.ownBlock] at q
    subst q
    rw [hP] at h4
    simp at h4
    exact het h4.2.1.symm
theorem row_map {w : World} {base n size b : Nat} {e : TypeId} {v : Value} {xs : List Value} {es : List (ByteArray × Value)} (h : w.ownsRow base e size v n xs) (hm : MapAt w b es) : v.ownBlock ≠ some b := by
  obtain ⟨h1, h2⟩ := h
  rcases h2 with ⟨rfl, _⟩ | ⟨g, cap, cur, rfl, h3, h4, h5, h6, h7, h8⟩
  · simp [Value.ownBlock]
  · intro q
    simp [Value.ownBlock] at q
    subst q
    exact hm.ne h4 rfl
theorem grown_o {w w' : World} {r : Option Nat} {k : Nat} {o : Obj} (h : w.grownBy w' r) (hk : w.heap[k]? = some o) (hn : r ≠ some k) : w'.heap[k]? = some o := by
  obtain ⟨_, _, _, _, g⟩ := h
  exact (g k (Array.getElem?_eq_some_iff.1 hk).1 (fun e => hn e.symm)).trans hk
theorem setP1 {W : World} {P : Nat} {x y : Value} (u : Value) (h : ScB W P x y) : W.grownBy (W.setCell ⟨P, 1, none⟩ u) (some P) ∧ ScB (W.setCell ⟨P, 1, none⟩ u) P x u := by
  refine ⟨⟨rfl, rfl, rfl, by simp [World.setCell], fun k hk hne => ?_⟩, bset (i := 1) h u⟩
  have hk : P ≠ k := fun e => hne (by rw [e])
  simp [World.setCell, Array.getElem?_modify, hk]
theorem BI.done {O : Nat → Prop} {w wr w3 : World} {P n g2 cap2 : Nat} {hv nv1 : Value} {o : Option Nat} {xs : List Value} {st : List (ByteArray × ByteArray) × List (ByteArray × Option ByteArray)} (h : BI O w P hv st (.map o) wr) (hO : O P) (hrow2 : wr.ownsRow 0 78 1 hv n xs) (s1 : ScB wr P nv1 hv) (s2 : NowAt wr nv1 st.1) (s3 : ∀ b, nv1 = .map (some b) → (O b ∨ w.heap.size ≤ b) ∧ Value.map o ≠ .map (some b))
    (hal : Below wr.heap.size wr (wr.alloc (.cells #[.map o] 78))) (hown3 : w3.ownsRow 0 78 1 (.slice (some ⟨g2, 0, none⟩) (n + 1) cap2) (n + 1) (xs ++ [.map o])) (hg3 : (wr.alloc (.cells #[.map o] 78)).grownBy w3 hv.ownBlock) (hat : hv.ownBlock = some g2 ∨ g2 = (wr.alloc (.cells #[.map o] 78)).heap.size) (b3 : ScB w3 P nv1 hv) :
    ∃ nv' v4 g2' cap2', ScB (w3.setCell ⟨P, 1, none⟩ (.slice (some ⟨g2, 0, none⟩) (n + 1) cap2)) P nv' (.slice (some ⟨g2', 0, none⟩) (n + 1) cap2') ∧ NowAt (w3.setCell ⟨P, 1, none⟩ (.slice (some ⟨g2, 0, none⟩) (n + 1) cap2)) nv' st.1 ∧ HidAt (w3.setCell ⟨P, 1, none⟩ (.slice (some ⟨g2, 0, none⟩) (n + 1) cap2)) v4 st.2 ∧ (w3.setCell ⟨P, 1, none⟩ (.slice (some ⟨g2, 0, none⟩) (n + 1) cap2)).ownsRow 0 78 1 (.slice (some ⟨g2', 0, none⟩) (n + 1) cap2') (n + 1) (xs ++ [v4]) ∧ (hv.ownBlock = some g2' ∨ w.heap.size ≤ g2') ∧ (∀ b, nv' = .map (some b) → (O b ∨ w.heap.size ≤ b) ∧ v4 ≠ .map (some b)) ∧ (∀ b, v4 = .map (some b) → w.heap.size ≤ b) ∧ Fro (fun k => O k ∨ hv.ownBlock = some k) w (w3.setCell ⟨P, 1, none⟩ (.slice (some ⟨g2, 0, none⟩) (n + 1) cap2)) := by
  obtain ⟨q1, q2⟩ := setP1 (.slice (some ⟨g2, 0, none⟩) (n + 1) cap2) b3
  have keep : ∀ b es, MapAt wr b es → MapAt (w3.setCell ⟨P, 1, none⟩ (.slice (some ⟨g2, 0, none⟩) (n + 1) cap2)) b es := fun b es hm => by
    have h1 := (hm.below hal).grown hg3 (row_map hrow2 hm)
    exact h1.grown q1 (fun e => by simp at e; exact (h1.ne b3) e.symm)
  have hr := row_ne hown3 b3 (by decide)
  have hgP : g2 ≠ P := fun e => hr (by simp [Value.ownBlock, e])
  refine ⟨nv1, .map o, g2, cap2, q2, ?_, ?_, row_fro (O := fun k => k = P) hown3 (Fro.grown q1 (fun k e => by simp at e; exact e.symm)) (fun k e q => by simp [Value.ownBlock] at e; exact hgP (e.trans q)), ?_, s3, h.new, ?_⟩
  · rcases s2 with q | ⟨b, q, hm⟩
    · exact .inl q
    · exact .inr ⟨b, q, keep _ _ hm⟩
  · rcases h.hid with q | ⟨b, q, hm⟩
    · exact .inl q
    · exact .inr ⟨b, q, keep _ _ hm⟩
  · rcases hat with q | q
    · exact .inl q
    · have := h.fro.size
      have := hal.size
      exact .inr (by omega)
  · exact (((h.fro.mono (fun i _ q => .inl q)).trans (Fro.below hal)).trans (Fro.grown hg3 (fun k e => .inr e))).trans (Fro.grown q1 (fun k e => by simp at e; rw [← e]; exact .inl hO))
theorem eq_nn (w : World) : (binOp .eql 78 (.map none) (.map none)).run Try.prog w = .ok (.bool true) w := by kernel_rfl
theorem eq_sn (b : Nat) (w : World) : (binOp .eql 78 (.map (some b)) (.map none)).run Try.prog w = .ok (.bool false) w := by kernel_rfl
set_option maxRecDepth 100000 in
set_option maxHeartbeats 1600000 in
theorem bind_t {O : Nat → Prop} {w : World} {P g off cap : Nat} {nv hv : Value} {l : List (ByteArray × ByteArray)} {ats : List (ByteArray × ByteArray × Int)} (hP : ScB w P nv hv) (hN : NowAt w nv l) (hO : O P) (hOb : ∀ b, nv = .map (some b) → O b) (hA : AtR w g off ats) (hg : ¬ O g) {n : Nat} {xs : List Value} (hrow : w.ownsRow 0 78 1 hv n xs) (hn : n ≤ 1000000) (hOr : ∀ k, hv.ownBlock = some k → ¬ O k) :
    Calls Try.prog 27 #[.pointer (some ⟨P, 0, none⟩), .slice (some ⟨g, off, none⟩) ats.length cap] w fun e w' => e = .returned (.tuple #[]) ∧ ∃ nv' v4 g2 cap2, ScB w' P nv' (.slice (some ⟨g2, 0, none⟩) (n + 1) cap2) ∧ NowAt w' nv' (binds l (ps ats)).1 ∧ HidAt w' v4 (binds l (ps ats)).2 ∧ w'.ownsRow 0 78 1 (.slice (some ⟨g2, 0, none⟩) (n + 1) cap2) (n + 1) (xs ++ [v4]) ∧ (hv.ownBlock = some g2 ∨ w.heap.size ≤ g2) ∧ (∀ b, nv' = .map (some b) → (O b ∨ w.heap.size ≤ b) ∧ v4 ≠ .map (some b)) ∧ (∀ b, v4 = .map (some b) → w.heap.size ≤ b) ∧ Fro (fun k => O k ∨ hv.ownBlock = some k) w w' := by
  have hlen := hA.2.1
  unfold maxLen at hlen
  have hI0 : BI O w P hv (l, []) (.map none) w := ⟨⟨nv, hP, hN, fun b hb => ⟨.inl (hOb b hb), by simp⟩⟩, .inl ⟨rfl, rfl⟩, fun b hb => by simp at hb, Fro.refl _ _⟩
  have HH : Hid _ := And.intro hI0 hA
  have HW : Hid _ := And.intro hrow hOr
  obtain ⟨i0, hi0, hz0, hz1, hz2⟩ := info78p
  clear hP hN hOb hA hI0 hrow hOr
  go_enter Try.func27, Try.ntmps27
  go_wp2_with fail
  go_loopg [4, 13] ats.length (fun m v4 v13 wr => ∃ i : Nat, v13 = .int .i64 i ∧ i + m = ats.length ∧ BI O w P hv (((ps ats).take i).foldl bstep (l, [])) v4 wr)
  case atStart => exact ⟨0, rfl, by omega, HH.out.1⟩
  case round =>
    obtain ⟨i, rfl, him, hbi⟩ := hrel
    obtain ⟨o, rfl⟩ := hbi.now
    by_cases hi : i < ats.length
    · obtain ⟨a0, a1, a2, asz⟩ := HH.out.2.2.2 i hi
      have hst := take_ps ats i hi (l, [])
      generalize ((ps ats).take i).foldl bstep (l, []) = st at *
      have c0 := (hbi.fro.cell (i := off + i * 3) HH.out.2.1 hg).trans a0
      have c1 := (hbi.fro.cell (i := off + i * 3 + 1) HH.out.2.1 hg).trans a1
      have c2 := (hbi.fro.cell (i := off + i * 3 + 2) HH.out.2.1 hg).trans a2
      generalize (ats[i]'hi) = A at *
      obtain ⟨nm, val, pl⟩ := A
      dsimp only at *
      have hB := fun W => binding_s nm W asz
      obtain ⟨lx, ly, hlk⟩ := hid_look (hbi.hid.below ((Below.refl _ _).alloc (Nat.le_refl _) (.cells #[.string nm, .string val, .int .i64 pl] 72))) (bindS nm).1
      generalize hq : bindS nm = q at *
      obtain ⟨p, bi⟩ := q
      dsimp only at *
      have HR : Hid _ := And.intro hbi (And.intro hst (And.intro hB hq))
      clear hbi hst hB hq a0 a1 a2
      obtain ⟨m, rfl⟩ : ∃ m, gk = m + 1 := ⟨gk - 1, by omega⟩
      have hbel : ∀ o1 o2 : Obj, Below wr.heap.size wr ((wr.alloc o1).alloc o2) := fun o1 o2 => ((Below.refl _ _).alloc (Nat.le_refl _) o1).alloc (by simp) o2
      cases bi
      · go_wp2_with (first | (go_at_call 37; refine Calls.mono (HR.out.2.2.1 _) ?_; rintro e w' ⟨rfl, rfl⟩))
        go_roundg m
        case measure => omega
        case rel =>
          refine ⟨i + 1, rfl, by omega, ?_⟩
          rw [HR.out.2.1]
          have e : bstep st (nm, val) = st := by unfold bstep; rw [HR.out.2.2.2, if_pos rfl]
          rw [e]
          exact HR.out.1.below (hbel _ _)
      · cases hhas : has st.2 p with
        | true =>
          rw [hhas] at hlk
          go_wp2_with (first | (go_at_call 37; refine Calls.mono (HR.out.2.2.1 _) ?_; rintro e w' ⟨rfl, rfl⟩))
          go_roundg m
          case measure => omega
          case rel =>
            refine ⟨i + 1, rfl, by omega, ?_⟩
            rw [HR.out.2.1]
            have e : bstep st (nm, val) = st := by unfold bstep; rw [HR.out.2.2.2, if_neg (by simp), if_pos hhas]
            rw [e]
            exact HR.out.1.below (hbel _ _)
        | false =>
          rw [hhas] at hlk
          by_cases hx : p = xmlB
          · have hx' : p.toList = xmL := by rw [hx]; exact tl_mk _
            have hx3 : (p.toList == xmL) = true := by simp [hx']
            have HX : Hid _ := hx
            clear hx
            go_wp2_with (first | (go_at_call 37; refine Calls.mono (HR.out.2.2.1 _) ?_; rintro e w' ⟨rfl, rfl⟩))
            go_roundg m
            case measure => omega
            case rel =>
              refine ⟨i + 1, rfl, by omega, ?_⟩
              rw [HR.out.2.1]
              have e : bstep st (nm, val) = st := by unfold bstep; rw [HR.out.2.2.2, if_neg (by simp), if_neg (by rw [hhas]; simp), if_pos HX.out]
              rw [e]
              exact HR.out.1.below (hbel _ _)
          · have hx' : ¬ p.toList = xmL := fun q => hx ((tl_eq _ _).1 (by rw [q]; exact (tl_mk _).symm))
            have hx3 : (p.toList == xmL) = false := by simpa using hx'
            have HX : Hid _ := hx
            clear hx
            obtain ⟨nv1, s1, s2, s3⟩ := HR.out.1.sc
            obtain ⟨k0, k1, f0, f1⟩ := fresh2 s1
            have hPl := World.block_lt_of_cell? wr _ k0
            dsimp only at hPl
            have hn1 : P ≠ wr.heap.size := by omega
            have hn2 : P ≠ wr.heap.size + 1 := by omega
            have hn3 : P ≠ wr.heap.size + 1 + 1 := by omega
            have HS : Hid _ := And.intro s1 (And.intro s2 s3)
            clear s1 s2 s3
            have hmm := @run_makeMap Try.prog
            have hnv : ∃ o1, nv1 = .map o1 := by rcases HS.out.2.1 with ⟨h, _⟩ | ⟨b, h, _⟩ <;> exact ⟨_, h⟩
            obtain ⟨o1, rfl⟩ := hnv
            have al3 : ∀ a b c : Obj, (((wr.alloc a).alloc b).alloc c).heap[P]? = some (.cells #[.map o1, hv] 81 (0, 0)) := fun a b c => ((((((Below.refl wr.heap.size wr).alloc (Nat.le_refl _) a).alloc (by simp) b).alloc (by simp; omega) c)).block P hPl).trans HS.out.1
            have al4 : ∀ a b c d : Obj, ((((wr.alloc a).alloc b).alloc c).alloc d).heap[P]? = some (.cells #[.map o1, hv] 81 (0, 0)) := fun a b c d => (((((((Below.refl wr.heap.size wr).alloc (Nat.le_refl _) a).alloc (by simp) b).alloc (by simp; omega) c).alloc (by simp; omega) d)).block P hPl).trans HS.out.1
            have kk3 := fun a b c => (fresh2 (al3 a b c)).1
            have kk4 := fun a b c d => (fresh2 (al4 a b c d)).1
            have ff3 := fun a b c => (fresh2 (al3 a b c)).2.2.1
            have ff4 := fun a b c d => (fresh2 (al4 a b c d)).2.2.1
            have HAL : Hid _ := And.intro al3 al4
            clear al3 al4
            have q1 := eq_nn
            have q2 := eq_sn
            rcases o with _ | hb <;> rcases o1 with _ | nb
            all_goals
              go_upto_region 11 with (first | (go_at_call 37; refine Calls.mono (HR.out.2.2.1 _) ?_; rintro e w' ⟨rfl, rfl⟩))
            · skip
              have hC1 : BI O w P hv st (.map (some (wr.heap.size + 1 + 1))) ((((((wr.alloc (.cells #[.string nm, .string val, .int .i64 pl] 72)).alloc (.cells #[.string lx, .bool ly] 83))).alloc (.map #[] 0)).alloc (.map #[] 0)).setCell ⟨P, 0, none⟩ (.map (some (wr.heap.size + 1 + 1 + 1)))) := by simpa only [sza] using ((HR.out.1.below (hbel _ _)).mk_hid.mk_now (HAL.out.1 _ _ _) hO).1
              have hC2 : ScB ((((((wr.alloc (.cells #[.string nm, .string val, .int .i64 pl] 72)).alloc (.cells #[.string lx, .bool ly] 83))).alloc (.map #[] 0)).alloc (.map #[] 0)).setCell ⟨P, 0, none⟩ (.map (some (wr.heap.size + 1 + 1 + 1)))) P (.map (some (wr.heap.size + 1 + 1 + 1))) hv := by simpa only [sza] using ((HR.out.1.below (hbel _ _)).mk_hid.mk_now (HAL.out.1 _ _ _) hO).2
              have hC3 : (((((((wr.alloc (.cells #[.string nm, .string val, .int .i64 pl] 72)).alloc (.cells #[.string lx, .bool ly] 83))).alloc (.map #[] 0)).alloc (.map #[] 0)).setCell ⟨P, 0, none⟩ (.map (some (wr.heap.size + 1 + 1 + 1))))).heap[wr.heap.size]? = some (.cells #[.string nm, .string val, .int .i64 pl] 72 (0, 0)) := (setO hn1 _).trans (xa4 _ _ _ _ _)
              have HC : Hid _ := And.intro hC1 (And.intro hC2 hC3)
              clear hC1 hC2 hC3 kk3 kk4 ff3 ff4 hn1 hn2 hn3 hbel HAL hlk k0 k1 f0 f1
              generalize ((((((wr.alloc (.cells #[.string nm, .string val, .int .i64 pl] 72)).alloc (.cells #[.string lx, .bool ly] 83))).alloc (.map #[] 0)).alloc (.map #[] 0)).setCell ⟨P, 0, none⟩ (.map (some (wr.heap.size + 1 + 1 + 1)))) = W at *
              generalize (wr.heap.size + 1 + 1 + 1) = nb at *
              generalize (wr.heap.size + 1 + 1) = hb at *
              obtain ⟨V, W5, r1, r2, r3, r4, r5⟩ := HC.out.1.step HC.out.2.1 p val hhas
              obtain ⟨W6, r6, hB6⟩ := r5 1
              have r7 : (Instr.mapUpdate 78 (.map (some nb)) (.string p) (.agg #[.string val, .bool true])).run Try.prog W5.drew = .ok () W6 := r6
              have hhb : hb ≠ wr.heap.size := by
                rcases HC.out.1.hid with ⟨h, _⟩ | ⟨b, h, hm⟩
                · simp at h
                · simp at h
                  rw [h]
                  exact hm.ne HC.out.2.2
              have d0 := (fresh2 HC.out.2.1).1
              have d5 := (fresh2 (grown_at r3 HC.out.2.1 r4)).1
              have x5 := (bl3 (grown_at r3 HC.out.2.2 hhb)).2.1
              have HF : Hid _ := hB6
              clear hB6 r5 r3 r4 r6
              go_wp2_with fail
              go_region
              go_wp2_with fail
              go_roundg m
              case measure => omega
              case rel =>
                refine ⟨i + 1, rfl, by omega, ?_⟩
                rw [HR.out.2.1]
                have e : bstep st (nm, val) = (setB st.1 p val, st.2 ++ [(p, spc st.1 p)]) := by unfold bstep; rw [HR.out.2.2.2, if_neg (by simp), if_neg (by rw [hhas]; simp), if_neg HX.out]
                rw [e]
                exact HF.out
            · skip
              have hC1 : BI O w P hv st (.map (some (wr.heap.size + 1 + 1))) ((((wr.alloc (.cells #[.string nm, .string val, .int .i64 pl] 72)).alloc (.cells #[.string lx, .bool ly] 83))).alloc (.map #[] 0)) := by simpa only [sza] using (HR.out.1.below (hbel _ _)).mk_hid
              have hC2 : ScB ((((wr.alloc (.cells #[.string nm, .string val, .int .i64 pl] 72)).alloc (.cells #[.string lx, .bool ly] 83))).alloc (.map #[] 0)) P (.map (some nb)) hv := HAL.out.1 _ _ _
              have hC3 : (((((wr.alloc (.cells #[.string nm, .string val, .int .i64 pl] 72)).alloc (.cells #[.string lx, .bool ly] 83))).alloc (.map #[] 0))).heap[wr.heap.size]? = some (.cells #[.string nm, .string val, .int .i64 pl] 72 (0, 0)) := xa3 _ _ _ _
              have HC : Hid _ := And.intro hC1 (And.intro hC2 hC3)
              clear hC1 hC2 hC3 kk3 kk4 ff3 ff4 hn1 hn2 hn3 hbel HAL hlk k0 k1 f0 f1
              generalize ((((wr.alloc (.cells #[.string nm, .string val, .int .i64 pl] 72)).alloc (.cells #[.string lx, .bool ly] 83))).alloc (.map #[] 0)) = W at *
              generalize (wr.heap.size + 1 + 1) = hb at *
              obtain ⟨V, W5, r1, r2, r3, r4, r5⟩ := HC.out.1.step HC.out.2.1 p val hhas
              obtain ⟨W6, r6, hB6⟩ := r5 1
              have r7 : (Instr.mapUpdate 78 (.map (some nb)) (.string p) (.agg #[.string val, .bool true])).run Try.prog W5.drew = .ok () W6 := r6
              have hhb : hb ≠ wr.heap.size := by
                rcases HC.out.1.hid with ⟨h, _⟩ | ⟨b, h, hm⟩
                · simp at h
                · simp at h
                  rw [h]
                  exact hm.ne HC.out.2.2
              have d0 := (fresh2 HC.out.2.1).1
              have d5 := (fresh2 (grown_at r3 HC.out.2.1 r4)).1
              have x5 := (bl3 (grown_at r3 HC.out.2.2 hhb)).2.1
              have HF : Hid _ := hB6
              clear hB6 r5 r3 r4 r6
              go_wp2_with fail
              go_region
              go_wp2_with fail
              go_roundg m
              case measure => omega
              case rel =>
                refine ⟨i + 1, rfl, by omega, ?_⟩
                rw [HR.out.2.1]
                have e : bstep st (nm, val) = (setB st.1 p val, st.2 ++ [(p, spc st.1 p)]) := by unfold bstep; rw [HR.out.2.2.2, if_neg (by simp), if_neg (by rw [hhas]; simp), if_neg HX.out]
                rw [e]
                exact HF.out
            · skip
              have hC1 : BI O w P hv st (.map (some hb)) (((((wr.alloc (.cells #[.string nm, .string val, .int .i64 pl] 72)).alloc (.cells #[.string lx, .bool ly] 83))).alloc (.map #[] 0)).setCell ⟨P, 0, none⟩ (.map (some (wr.heap.size + 1 + 1)))) := by simpa only [sza] using ((HR.out.1.below (hbel _ _)).mk_now (HS.out.1.below (hbel _ _)) hO).1
              have hC2 : ScB (((((wr.alloc (.cells #[.string nm, .string val, .int .i64 pl] 72)).alloc (.cells #[.string lx, .bool ly] 83))).alloc (.map #[] 0)).setCell ⟨P, 0, none⟩ (.map (some (wr.heap.size + 1 + 1)))) P (.map (some (wr.heap.size + 1 + 1))) hv := by simpa only [sza] using ((HR.out.1.below (hbel _ _)).mk_now (HS.out.1.below (hbel _ _)) hO).2
              have hC3 : ((((((wr.alloc (.cells #[.string nm, .string val, .int .i64 pl] 72)).alloc (.cells #[.string lx, .bool ly] 83))).alloc (.map #[] 0)).setCell ⟨P, 0, none⟩ (.map (some (wr.heap.size + 1 + 1))))).heap[wr.heap.size]? = some (.cells #[.string nm, .string val, .int .i64 pl] 72 (0, 0)) := (setO hn1 _).trans (xa3 _ _ _ _)
              have HC : Hid _ := And.intro hC1 (And.intro hC2 hC3)
              clear hC1 hC2 hC3 kk3 kk4 ff3 ff4 hn1 hn2 hn3 hbel HAL hlk k0 k1 f0 f1
              generalize (((((wr.alloc (.cells #[.string nm, .string val, .int .i64 pl] 72)).alloc (.cells #[.string lx, .bool ly] 83))).alloc (.map #[] 0)).setCell ⟨P, 0, none⟩ (.map (some (wr.heap.size + 1 + 1)))) = W at *
              generalize (wr.heap.size + 1 + 1) = nb at *
              obtain ⟨V, W5, r1, r2, r3, r4, r5⟩ := HC.out.1.step HC.out.2.1 p val hhas
              obtain ⟨W6, r6, hB6⟩ := r5 1
              have r7 : (Instr.mapUpdate 78 (.map (some nb)) (.string p) (.agg #[.string val, .bool true])).run Try.prog W5.drew = .ok () W6 := r6
              have hhb : hb ≠ wr.heap.size := by
                rcases HC.out.1.hid with ⟨h, _⟩ | ⟨b, h, hm⟩
                · simp at h
                · simp at h
                  rw [h]
                  exact hm.ne HC.out.2.2
              have d0 := (fresh2 HC.out.2.1).1
              have d5 := (fresh2 (grown_at r3 HC.out.2.1 r4)).1
              have x5 := (bl3 (grown_at r3 HC.out.2.2 hhb)).2.1
              have HF : Hid _ := hB6
              clear hB6 r5 r3 r4 r6
              go_wp2_with fail
              go_region
              go_wp2_with fail
              go_roundg m
              case measure => omega
              case rel =>
                refine ⟨i + 1, rfl, by omega, ?_⟩
                rw [HR.out.2.1]
                have e : bstep st (nm, val) = (setB st.1 p val, st.2 ++ [(p, spc st.1 p)]) := by unfold bstep; rw [HR.out.2.2.2, if_neg (by simp), if_neg (by rw [hhas]; simp), if_neg HX.out]
                rw [e]
                exact HF.out
            · skip
              have hC1 : BI O w P hv st (.map (some hb)) ((wr.alloc (.cells #[.string nm, .string val, .int .i64 pl] 72)).alloc (.cells #[.string lx, .bool ly] 83)) := (HR.out.1.below (hbel _ _))
              have hC2 : ScB ((wr.alloc (.cells #[.string nm, .string val, .int .i64 pl] 72)).alloc (.cells #[.string lx, .bool ly] 83)) P (.map (some nb)) hv := HS.out.1.below (hbel _ _)
              have hC3 : (((wr.alloc (.cells #[.string nm, .string val, .int .i64 pl] 72)).alloc (.cells #[.string lx, .bool ly] 83))).heap[wr.heap.size]? = some (.cells #[.string nm, .string val, .int .i64 pl] 72 (0, 0)) := xa2 _ _ _
              have HC : Hid _ := And.intro hC1 (And.intro hC2 hC3)
              clear hC1 hC2 hC3 kk3 kk4 ff3 ff4 hn1 hn2 hn3 hbel HAL hlk k0 k1 f0 f1
              generalize ((wr.alloc (.cells #[.string nm, .string val, .int .i64 pl] 72)).alloc (.cells #[.string lx, .bool ly] 83)) = W at *
              obtain ⟨V, W5, r1, r2, r3, r4, r5⟩ := HC.out.1.step HC.out.2.1 p val hhas
              obtain ⟨W6, r6, hB6⟩ := r5 1
              have r7 : (Instr.mapUpdate 78 (.map (some nb)) (.string p) (.agg #[.string val, .bool true])).run Try.prog W5.drew = .ok () W6 := r6
              have hhb : hb ≠ wr.heap.size := by
                rcases HC.out.1.hid with ⟨h, _⟩ | ⟨b, h, hm⟩
                · simp at h
                · simp at h
                  rw [h]
                  exact hm.ne HC.out.2.2
              have d0 := (fresh2 HC.out.2.1).1
              have d5 := (fresh2 (grown_at r3 HC.out.2.1 r4)).1
              have x5 := (bl3 (grown_at r3 HC.out.2.2 hhb)).2.1
              have HF : Hid _ := hB6
              clear hB6 r5 r3 r4 r6
              go_wp2_with fail
              go_region
              go_wp2_with fail
              go_roundg m
              case measure => omega
              case rel =>
                refine ⟨i + 1, rfl, by omega, ?_⟩
                rw [HR.out.2.1]
                have e : bstep st (nm, val) = (setB st.1 p val, st.2 ++ [(p, spc st.1 p)]) := by unfold bstep; rw [HR.out.2.2.2, if_neg (by simp), if_neg (by rw [hhas]; simp), if_neg HX.out]
                rw [e]
                exact HF.out
    · obtain rfl : i = ats.length := by omega
      have hgk : gk = 0 := by omega
      subst hgk
      have htk : ((ps ats).take ats.length).foldl bstep (l, []) = binds l (ps ats) := by
        have e : ats.length = (ps ats).length := by simp [ps]
        rw [e, List.take_length]
        rfl
      rw [htk] at hbi
      clear htk
      obtain ⟨nv1, s1, s2, s3⟩ := hbi.sc
      have hrow2 := row_fro HW.out.1 hbi.fro HW.out.2
      obtain ⟨k0, k1, f0, f1⟩ := fresh2 s1
      have HR : Hid _ := And.intro hbi (And.intro hrow2 (And.intro s1 (And.intro s2 s3)))
      have hal : Below wr.heap.size wr (wr.alloc (.cells #[.map o] 78)) := (Below.refl _ _).alloc (Nat.le_refl _) _
      have hgal : Hid _ := hal
      clear hbi hrow2 s1 s2 s3 hal
      go_wp2_with (first | (at_builtin; refine wpList_append_lies _ rfl (.tmp 71) (.tmp 73) 79 rfl 0 78 i0 (.map none) 1 8 Try.underlying79 hi0 hz0 hz1 hz2 rfl (by decide) hv n xs rfl (World.ownsRow.alloc HR.out.2.1 _) ⟨wr.heap.size, 0, none⟩ 1 1 [.map o] rfl rfl (cell_one_new _ _ _) (by intro u hu; simp at hu; subst hu; rfl) (by decide) (by unfold maxLen; omega) (by omega) (Nat.zero_le _) _ rfl ?_; intro g2 cap2 w3 hown3 hg3 hat hlt3; have b3 := grown_o hg3 (HR.out.2.2.1.below hgal.out) (row_ne HR.out.2.1 HR.out.2.2.1 (by decide)); obtain ⟨y0, y1, y2, y3⟩ := fresh2 b3; have H3 : Hid _ := And.intro hown3 (And.intro hg3 (And.intro hat b3)); clear hown3 hg3 hat b3))
      go_end0
      exact ⟨rfl, HR.out.1.done hO HR.out.2.1 HR.out.2.2.1 HR.out.2.2.2.1 HR.out.2.2.2.2 hgal.out H3.out.1 H3.out.2.1 H3.out.2.2.1 H3.out.2.2.2⟩
end Go.Proofs.Ytgidbmiahckleaa
