/- tag: an event's names resolved. -/
import Derived.Test.YtgidbmiahckleaaMap2
namespace Go.Proofs.Ytgidbmiahckleaa
open Go.RowKit
set_option linter.unusedVariables false

abbrev Out := (ByteArray × ByteArray) × ByteArray × Int
def ac (o : Out) : List Value := [.string o.1.1, .string o.1.2, .string o.2.1, .int .i64 o.2.2]
/-- The attributes of a tag, or the first fault. -/
def tgo (l : List (ByteArray × ByteArray)) : List (ByteArray × ByteArray × Int) → List Out → Except (Int × Int) (List Out)
  | [], out => .ok out
  | a :: ats, out =>
    if (bindS a.1).2 = true then tgo l ats out
    else if (attS l a.1).2.2 ≠ 0 then .error (a.2.2, (attS l a.1).2.2)
    else if hasN (out.map (·.1)) ((attS l a.1).1, (attS l a.1).2.1) = true then .error (a.2.2, 5)
    else tgo l ats (out ++ [(((attS l a.1).1, (attS l a.1).2.1), a.2.1, a.2.2)])
def tagS (l : List (ByteArray × ByteArray)) (nm : ByteArray) (pl : Int) (ats : List (ByteArray × ByteArray × Int)) : Except (Int × Int) ((ByteArray × ByteArray) × List Out) :=
  if (eltS l nm).2.2 ≠ 0 then .error (pl, (eltS l nm).2.2) else match tgo l ats [] with
    | .error e => .error e
    | .ok out => .ok (((eltS l nm).1, (eltS l nm).2.1), out)
abbrev zT : Value := .agg #[.string ⟨#[]⟩, .string ⟨#[]⟩, .slice none 0 0, .int .i64 0]
/-- An event's attributes: none, or in memory. -/
def AtO (w : World) (a : Option Addr) (ats : List (ByteArray × ByteArray × Int)) : Prop := ats = [] ∨ ∃ g off, a = some ⟨g, off, none⟩ ∧ AtR w g off ats
abbrev evV (k pl : Int) (nm tx : ByteArray) (a : Option Addr) (n cap : Nat) : Value := .agg #[.int .i64 k, .int .i64 pl, .string nm, .string tx, .slice a n cap]
/-- Where tag stands. -/
structure TI (w : World) (C T M : Nat) (nm : ByteArray × ByteArray) (pl : Int) (out : List Out) (wr : World) : Prop where
  b : Below w.heap.size w wr
  c : wr.heap[C]? = some (.cells #[.string ⟨#[]⟩, .string ⟨#[]⟩, .slice none 0 0, .int .i64 0] 40 (0, 0))
  t : ∃ sv, wr.heap[T]? = some (.cells #[.string nm.1, .string nm.2, sv, .int .i64 pl] 40 (0, 0)) ∧ wr.ownsRow w.heap.size 74 4 sv out.length (out.flatMap ac)
  m : MapN wr M (out.map (·.1))
def TagP (w : World) (l : List (ByteArray × ByteArray)) (nm : ByteArray) (pl : Int) (ats : List (ByteArray × ByteArray × Int)) (e : Ending) (w' : World) : Prop :=
  Below w.heap.size w w' ∧ match tagS l nm pl ats with
    | .error x => e = .returned (.tuple #[zT, .int .i64 x.1, .int .i64 x.2])
    | .ok x => ∃ sv, e = .returned (.tuple #[.agg #[.string x.1.1, .string x.1.2, sv, .int .i64 pl], .int .i64 0, .int .i64 0]) ∧ w'.ownsRow w.heap.size 74 4 sv x.2.length (x.2.flatMap ac)
theorem bl4 {w2 : World} {X : Nat} {x y z u : Value} {t : TypeId} (hblk : w2.heap[X]? = some (.cells #[x, y, z, u] t (0, 0))) : (w2.cell? ⟨X, 0, none⟩ = some x ∧ w2.cell? ⟨X, 1, none⟩ = some y ∧ w2.cell? ⟨X, 2, none⟩ = some z ∧ w2.cell? ⟨X, 3, none⟩ = some u) ∧ w2.frozen? ⟨X, 0, none⟩ = false ∧ w2.frozen? ⟨X, 1, none⟩ = false ∧ w2.frozen? ⟨X, 2, none⟩ = false ∧ w2.frozen? ⟨X, 3, none⟩ = false := by
  refine ⟨⟨?_, ?_, ?_, ?_⟩, ?_, ?_, ?_, ?_⟩ <;> simp [World.cell?, World.frozen?, hblk]
theorem bl5 {w2 : World} {X : Nat} {x y z u v : Value} {t : TypeId} (hblk : w2.heap[X]? = some (.cells #[x, y, z, u, v] t (0, 0))) : (w2.cell? ⟨X, 0, none⟩ = some x ∧ w2.cell? ⟨X, 1, none⟩ = some y ∧ w2.cell? ⟨X, 2, none⟩ = some z ∧ w2.cell? ⟨X, 3, none⟩ = some u ∧ w2.cell? ⟨X, 4, none⟩ = some v) ∧ w2.frozen? ⟨X, 0, none⟩ = false := by
  refine ⟨⟨?_, ?_, ?_, ?_, ?_⟩, ?_⟩ <;> simp [World.cell?, World.frozen?, hblk]
theorem MapN.below {w w' : World} {b : Nat} {ks : List (ByteArray × ByteArray)} (h : MapN w b ks) (hb : Below w.heap.size w w') : MapN w' b ks := by
  obtain ⟨arr, clk, h1, h2⟩ := h
  exact ⟨arr, clk, (hb.block b (Array.getElem?_eq_some_iff.1 h1).1).trans h1, h2⟩
theorem MapN.lt {w : World} {b : Nat} {ks : List (ByteArray × ByteArray)} (h : MapN w b ks) : b < w.heap.size := by
  obtain ⟨arr, clk, h1, h2⟩ := h
  exact (Array.getElem?_eq_some_iff.1 h1).1
theorem MapN.ne {w : World} {b X : Nat} {ks : List (ByteArray × ByteArray)} {cs : Array Value} {t : TypeId} {f : Nat × Nat} (h : MapN w b ks) (hX : w.heap[X]? = some (.cells cs t f)) : b ≠ X := by
  rintro rfl
  obtain ⟨arr, clk, h1, h2⟩ := h
  rw [hX] at h1
  cases h1
theorem MapN.grown {w w' : World} {b : Nat} {o : Option Nat} {ks : List (ByteArray × ByteArray)} (h : MapN w b ks) (hb : w.grownBy w' o) (hn : o ≠ some b) : MapN w' b ks := by
  have hl := h.lt
  obtain ⟨arr, clk, h1, h2⟩ := h
  exact ⟨arr, clk, (hb.block b hl (fun q => hn q.symm)).trans h1, h2⟩
theorem row_below {w w' : World} {base n size : Nat} {e : TypeId} {v : Value} {xs : List Value} (h : w.ownsRow base e size v n xs) (hf : Below w.heap.size w w') : w'.ownsRow base e size v n xs := by
  obtain ⟨h1, h2⟩ := h
  refine ⟨h1, ?_⟩
  rcases h2 with h | ⟨g, cap, cur, rfl, h3, h4, h5, h6, h7, h8⟩
  · exact .inl h
  · exact .inr ⟨g, cap, cur, rfl, h3, (hf.block g (Array.getElem?_eq_some_iff.1 h4).1).trans h4, h5, h6, h7, h8⟩
theorem row_mapN {w : World} {base n size b : Nat} {e : TypeId} {v : Value} {xs : List Value} {ks : List (ByteArray × ByteArray)} (h : w.ownsRow base e size v n xs) (hm : MapN w b ks) : v.ownBlock ≠ some b := by
  obtain ⟨h1, h2⟩ := h
  rcases h2 with ⟨rfl, _⟩ | ⟨g, cap, cur, rfl, h3, h4, h5, h6, h7, h8⟩
  · simp [Value.ownBlock]
  · intro q
    simp [Value.ownBlock] at q
    subst q
    exact hm.ne h4 rfl
theorem row_base {w : World} {base n size : Nat} {e : TypeId} {v : Value} {xs : List Value} (h : w.ownsRow base e size v n xs) : ∀ k, v.ownBlock = some k → base ≤ k ∧ k < w.heap.size := by
  obtain ⟨h1, h2⟩ := h
  rcases h2 with ⟨rfl, _⟩ | ⟨g, cap, cur, rfl, h3, h4, h5, h6, h7, h8⟩
  · simp [Value.ownBlock]
  · intro k q
    simp [Value.ownBlock] at q
    subst q
    exact ⟨h3, (Array.getElem?_eq_some_iff.1 h4).1⟩
theorem lt_of {w : World} {X : Nat} {o : Obj} (h : w.heap[X]? = some o) : X < w.heap.size := (Array.getElem?_eq_some_iff.1 h).1
theorem TI.below {w : World} {C T M : Nat} {nm : ByteArray × ByteArray} {pl : Int} {out : List Out} {wr wr' : World} (h : TI w C T M nm pl out wr) (hb : Below wr.heap.size wr wr') : TI w C T M nm pl out wr' := by
  obtain ⟨h1, h2, ⟨sv, h3, h4⟩, h5⟩ := h
  exact ⟨h1.trans (hb.mono h1.size), (hb.block _ (lt_of h2)).trans h2, ⟨sv, (hb.block _ (lt_of h3)).trans h3, row_below h4 hb⟩, h5.below hb⟩
theorem setC {W : World} {T i : Nat} {cs : Array Value} {t : TypeId} (u : Value) (h : W.heap[T]? = some (.cells cs t (0, 0))) : W.grownBy (W.setCell ⟨T, i, none⟩ u) (some T) ∧ (W.setCell ⟨T, i, none⟩ u).heap[T]? = some (.cells (cs.setIfInBounds i u) t (0, 0)) := by
  refine ⟨⟨rfl, rfl, rfl, by simp [World.setCell], fun k hk hne => ?_⟩, bset h u⟩
  have hk : T ≠ k := fun e => hne (by rw [e])
  simp [World.setCell, Array.getElem?_modify, hk]
theorem TI.done {w W W5 w7 : World} {C T M g2 cap2 : Nat} {nm : ByteArray × ByteArray} {pl : Int} {out : List Out} (o : Out) {sv : Value} {o6 : Obj} (hb : Below w.heap.size w W) (hc : W.heap[C]? = some (.cells #[.string ⟨#[]⟩, .string ⟨#[]⟩, .slice none 0 0, .int .i64 0] 40 (0, 0)))
    (ht : W.heap[T]? = some (.cells #[.string nm.1, .string nm.2, sv, .int .i64 pl] 40 (0, 0))) (hr : W.ownsRow w.heap.size 74 4 sv out.length (out.flatMap ac)) (hm : MapN W M (out.map (·.1))) (hCT : C ≠ T) (hT : w.heap.size ≤ T) (hM : w.heap.size ≤ M)
    (m5 : MapN W5 M (out.map (·.1) ++ [o.1])) (g5 : W.grownBy W5 (some M)) (r7 : w7.ownsRow w.heap.size 74 4 (.slice (some ⟨g2, 0, none⟩) (out.length + 1) cap2) (out.length + 1) (out.flatMap ac ++ ac o)) (g7 : (W5.alloc o6).grownBy w7 sv.ownBlock) (hat : sv.ownBlock = some g2 ∨ g2 = W5.heap.size + 1) :
    TI w C T M nm pl (out ++ [o]) (w7.setCell ⟨T, 2, none⟩ (.slice (some ⟨g2, 0, none⟩) (out.length + 1) cap2)) := by
  have hs := hb.size
  have hs5 := g5.size
  have c5 := grown_at g5 hc (hm.ne hc)
  have t5 := grown_at g5 ht (hm.ne ht)
  have rT := row_ne hr ht (by decide)
  have rC := row_ne hr hc (by decide)
  have rM := row_mapN hr hm
  have b5 : Below w.heap.size w W5 := hb.grown g5 hs (fun k e => by simp at e; rw [← e]; exact hM)
  have ba : Below W5.heap.size W5 (W5.alloc o6) := (Below.refl _ _).alloc (Nat.le_refl _) _
  have b6 : Below w.heap.size w (W5.alloc o6) := b5.alloc (by omega) o6
  have b7 : Below w.heap.size w w7 := b6.grown g7 (by have := ba.size; omega) (fun k e => (row_base hr k e).1)
  have c7 := grown_o g7 ((ba.block _ (lt_of c5)).trans c5) rC
  have t7 := grown_o g7 ((ba.block _ (lt_of t5)).trans t5) rT
  have m7 := (m5.below ba).grown g7 rM
  obtain ⟨g8, t8⟩ := setC (i := 2) (.slice (some ⟨g2, 0, none⟩) (out.length + 1) cap2) t7
  have hg2 : g2 ≠ T := fun e => row_ne r7 t7 (by decide) (by rw [e]; rfl)
  refine ⟨b7.setCell (p := ⟨T, 2, none⟩) hT _, grown_at g8 c7 (fun e => hCT e.symm), ⟨_, t8, ?_⟩, ?_⟩
  · have := r7.kept g8 (.inr (by intro q; simp [Value.ownBlock] at q; exact hg2 q))
    simpa using this
  · have := m7.grown g8 (by simp; exact fun e => (m7.ne t7) e.symm)
    simpa using this
theorem info74 : (Try.prog.info? 74).map (fun i => (i.zero.map fun z => z.cells.size, i.size, i.bytes)) = some (some 4, 4, 56) := by kernel_rfl
theorem info74p : ∃ i z, Try.prog.info? 74 = some i ∧ i.zero = some z ∧ z.cells.size = 4 ∧ i.size = 4 ∧ i.bytes = 56 := by
  have := info74
  cases h : Try.prog.info? 74 with
  | none => rw [h] at this; simp at this
  | some i =>
    rw [h] at this
    simp at this
    obtain ⟨⟨z, h1, h2⟩, h3, h4⟩ := this
    exact ⟨i, z, rfl, h1, h2, h3, h4⟩
theorem set4 {N X : Nat} {w w2 : World} {x y z u : Value} (hb : Below N w w2) (hX : N ≤ X) (h : w2.heap[X]? = some (.cells #[x, y, z, u] 40 (0, 0))) (a b c d : Value) :
    ((((w2.setCell ⟨X, 0, none⟩ a).setCell ⟨X, 1, none⟩ b).setCell ⟨X, 2, none⟩ c).setCell ⟨X, 3, none⟩ d).heap[X]? = some (.cells #[a, b, c, d] 40 (0, 0)) ∧ Below N w ((((w2.setCell ⟨X, 0, none⟩ a).setCell ⟨X, 1, none⟩ b).setCell ⟨X, 2, none⟩ c).setCell ⟨X, 3, none⟩ d) ∧ Below X w2 ((((w2.setCell ⟨X, 0, none⟩ a).setCell ⟨X, 1, none⟩ b).setCell ⟨X, 2, none⟩ c).setCell ⟨X, 3, none⟩ d) ∧ (∀ k, k ≠ X → ((((w2.setCell ⟨X, 0, none⟩ a).setCell ⟨X, 1, none⟩ b).setCell ⟨X, 2, none⟩ c).setCell ⟨X, 3, none⟩ d).heap[k]? = w2.heap[k]?) := by
  have h2 := bset (i := 3) (bset (i := 2) (bset (i := 1) (bset (i := 0) h a) b) c) d
  refine ⟨h2, (((hb.setCell (p := ⟨X, 0, none⟩) hX a).setCell (p := ⟨X, 1, none⟩) hX b).setCell (p := ⟨X, 2, none⟩) hX c).setCell (p := ⟨X, 3, none⟩) hX d, ((((Below.refl X w2).setCell (p := ⟨X, 0, none⟩) (Nat.le_refl _) a).setCell (p := ⟨X, 1, none⟩) (Nat.le_refl _) b).setCell (p := ⟨X, 2, none⟩) (Nat.le_refl _) c).setCell (p := ⟨X, 3, none⟩) (Nat.le_refl _) d, fun k hk => ?_⟩
  rw [Below.heap_setCell _ _ _ _ hk, Below.heap_setCell _ _ _ _ hk, Below.heap_setCell _ _ _ _ hk, Below.heap_setCell _ _ _ _ hk]
theorem row_same {w w' : World} {base n size : Nat} {e : TypeId} {v : Value} {xs : List Value} (h : w.ownsRow base e size v n xs) (hf : ∀ k, v.ownBlock = some k → w'.heap[k]? = w.heap[k]?) : w'.ownsRow base e size v n xs := by
  obtain ⟨h1, h2⟩ := h
  refine ⟨h1, ?_⟩
  rcases h2 with h | ⟨g, cap, cur, rfl, h3, h4, h5, h6, h7, h8⟩
  · exact .inl h
  · exact .inr ⟨g, cap, cur, rfl, h3, (hf g rfl).trans h4, h5, h6, h7, h8⟩
theorem row_form {w : World} {base n size : Nat} {e : TypeId} {v : Value} {xs : List Value} (h : w.ownsRow base e size v n xs) : ∃ a c, v = .slice a n c := by
  rcases h.2 with ⟨h, h0⟩ | ⟨g, cap, cur, rfl, _⟩
  · exact ⟨none, 0, by rw [h, h0]⟩
  · exact ⟨_, _, rfl⟩
theorem TI.start {w w2 : World} {r1 r2 : ByteArray} {pl : Int} (hb : Below w.heap.size w w2) (hz : w.heap.size + 1 + 1 ≤ w2.heap.size) (hc : ∀ o, (w2.alloc o).heap[w.heap.size + 1]? = some (.cells #[.string ⟨#[]⟩, .string ⟨#[]⟩, .slice none 0 0, .int .i64 0] 40 (0, 0))) :
    TI w (w.heap.size + 1) (w2.heap.size + 1) (w2.heap.size + 1 + 1) (r1, r2) pl [] (((w2.alloc (.cells #[.string r1, .string r2] 37)).alloc (.cells #[.string r1, .string r2, .slice none 0 0, .int .i64 pl] 40)).alloc (.map #[] 0)) := by
  have ba : ∀ o1 o2 o3, Below w2.heap.size w2 (((w2.alloc o1).alloc o2).alloc o3) := fun o1 o2 o3 => (((Below.refl _ _).alloc (Nat.le_refl _) o1).alloc (by simp) o2).alloc (by simp; omega) o3
  refine ⟨hb.trans ((ba _ _ _).mono hb.size), ?_, ⟨_, ?_, ⟨rfl, .inl ⟨rfl, rfl⟩⟩⟩, ?_⟩
  · exact ((((Below.refl (w2.alloc _).heap.size _).alloc (Nat.le_refl _) _).alloc (by simp) _).block _ (by simp only [sza]; omega)).trans (hc _)
  · have := xa2 (w2.alloc (.cells #[.string r1, .string r2] 37)) (.cells #[.string r1, .string r2, .slice none 0 0, .int .i64 pl] 40) (.map #[] 0)
    simpa only [sza] using this
  · have := new_n ((w2.alloc (.cells #[.string r1, .string r2] 37)).alloc (.cells #[.string r1, .string r2, .slice none 0 0, .int .i64 pl] 40))
    rw [List.map_nil]
    simpa only [sza] using this
set_option maxRecDepth 100000 in
set_option maxHeartbeats 1600000 in
theorem tag_s {w : World} {P : Nat} {nv hv : Value} {l : List (ByteArray × ByteArray)} (hP : ScB w P nv hv) (hN : NowAt w nv l) (k pl : Int) (nm tx : ByteArray) (hs : nm.size ≤ maxLen) {a : Option Addr} {cap : Nat} {ats : List (ByteArray × ByteArray × Int)} (hA : AtO w a ats) (hcnt : ats.length ≤ 1000000) :
    Calls Try.prog 28 #[.pointer (some ⟨P, 0, none⟩), evV k pl nm tx a ats.length cap] w (TagP w l nm pl ats) := by
  have hb0 : Below w.heap.size w ((w.alloc (.cells #[.int .i64 k, .int .i64 pl, .string nm, .string tx, .slice a ats.length cap] 35)).alloc (.cells #[.string ⟨#[]⟩, .string ⟨#[]⟩, .slice none 0 0, .int .i64 0] 40)) := ((Below.refl _ _).alloc (Nat.le_refl _) _).alloc (by simp) _
  have HE := element_s (hP.below hb0) (hN.below hb0) nm hs
  have hE : tagS l nm pl ats = if (eltS l nm).2.2 ≠ 0 then .error (pl, (eltS l nm).2.2) else match tgo l ats [] with
    | .error e => .error e
    | .ok out => .ok (((eltS l nm).1, (eltS l nm).2.1), out) := rfl
  have HH : Hid _ := And.intro hb0 (And.intro hP (And.intro hN (And.intro hA (And.intro HE hE))))
  clear hb0 hP hN hA HE hE
  generalize hel : eltS l nm = R at *
  obtain ⟨r1, r2, r3⟩ := R
  dsimp only at *
  go_enter Try.func28, Try.ntmps28
  go_wp2_with fail
  refine Calls.mono HH.out.2.2.2.2.1 ?_
  rintro e w2 ⟨rfl, hb2⟩
  have hz2 := hb2.size
  simp only [sza] at hz2
  have hbox : w2.heap[w.heap.size]? = some (.cells #[.int .i64 k, .int .i64 pl, .string nm, .string tx, .slice a ats.length cap] 35 (0, 0)) := (hb2.block _ (by simp only [sza]; omega)).trans (xa2 _ _ _)
  have hres : w2.heap[w.heap.size + 1]? = some (.cells #[.string ⟨#[]⟩, .string ⟨#[]⟩, .slice none 0 0, .int .i64 0] 40 (0, 0)) := (hb2.block _ (by simp only [sza]; omega)).trans (by have := nw_heap (w.alloc (.cells #[.int .i64 k, .int .i64 pl, .string nm, .string tx, .slice a ats.length cap] 35)) (.cells #[.string ⟨#[]⟩, .string ⟨#[]⟩, .slice none 0 0, .int .i64 0] 40); rwa [sza] at this)
  have hbw2 := HH.out.1.trans (hb2.mono (by simp only [sza]; omega))
  have hal : ∀ o, (w2.alloc o).heap[w.heap.size + 1]? = some (.cells #[.string ⟨#[]⟩, .string ⟨#[]⟩, .slice none 0 0, .int .i64 0] 40 (0, 0)) := fun o => ((((Below.refl w2.heap.size w2).alloc (Nat.le_refl _) o)).block _ (by omega)).trans hres
  have hab : ∀ o, (w2.alloc o).heap[w.heap.size]? = some (.cells #[.int .i64 k, .int .i64 pl, .string nm, .string tx, .slice a ats.length cap] 35 (0, 0)) := fun o => ((((Below.refl w2.heap.size w2).alloc (Nat.le_refl _) o)).block _ (by omega)).trans hbox
  have H2 : Hid _ := And.intro hbw2 (And.intro hal hab)
  clear hb2 hbox hres hbw2 hal hab
  have b0 := fun o => (bl5 (H2.out.2.2 o)).1.2.1
  have c0 := fun o => (bl4 (H2.out.2.1 o)).1
  have d0 := fun o => (bl4 (H2.out.2.1 o)).2
  have hne1 : w.heap.size + 1 ≠ w2.heap.size := by omega
  have hne0 : w.heap.size ≠ w2.heap.size := by omega
  have hmm := @run_makeMap Try.prog
  by_cases h3 : r3 = 0
  · subst h3
    have bb3 : ∀ o1 o2 o3, (((w2.alloc o1).alloc o2).alloc o3).cell? ⟨w.heap.size, 4, none⟩ = some (.slice a ats.length cap) := fun o1 o2 o3 => (bl5 (((((Below.refl _ _).alloc (Nat.le_refl _) o2).alloc (by simp) o3).block _ (by simp only [sza]; omega)).trans (H2.out.2.2 o1))).1.2.2.2.2
    go_wp2_with fail
    have hst := TI.start (r1 := r1) (r2 := r2) (pl := pl) H2.out.1 hz2 H2.out.2.1
    have HST : Hid _ := hst
    clear hst b0 c0 d0 bb3
    obtain ⟨i74, z74, hi74, hz0, hzc, hz1, hz3⟩ := info74p
    go_loopg [40] ats.length (fun m v40 wr => ∃ (i : Nat) (out : List Out), v40 = .int .i64 i ∧ i + m = ats.length ∧ out.length ≤ i ∧ tgo l ats [] = tgo l (ats.drop i) out ∧ TI w (w.heap.size + 1) (w2.heap.size + 1) (w2.heap.size + 1 + 1) (r1, r2) pl out wr)
    case atStart => exact ⟨0, [], rfl, by omega, by simp, rfl, HST.out⟩
    case round =>
      obtain ⟨i, out, rfl, him, hio, htg, hti⟩ := hrel
      by_cases hi : i < ats.length
      · rcases HH.out.2.2.2.1 with he | ⟨g, off, rfl, hAR⟩
        · rw [he] at hi; simp at hi
        obtain ⟨a0, a1, a2, asz⟩ := hAR.2.2 i hi
        have hdr := List.drop_eq_getElem_cons hi
        rw [hdr] at htg
        have e0 := (hti.b.cell (p := ⟨g, off + i * 3, none⟩) hAR.1).trans a0
        have e1 := (hti.b.cell (p := ⟨g, off + i * 3 + 1, none⟩) hAR.1).trans a1
        have e2 := (hti.b.cell (p := ⟨g, off + i * 3 + 2, none⟩) hAR.1).trans a2
        generalize (ats[i]'hi) = A at *
        obtain ⟨an, av, ap⟩ := A
        dsimp only at *
        rw [tgo] at htg
        dsimp only at htg
        have hB := fun W => binding_s an W asz
        have hb1 : ∀ o, Below wr.heap.size wr (wr.alloc o) := fun o => (Below.refl _ _).alloc (Nat.le_refl _) o
        have hsz := hti.b.size
        have htl := lt_of (hti.t.choose_spec.1)
        have hA2 := fun o => attribute_s ((HH.out.2.1.below hti.b).below (hb1 o)) ((HH.out.2.2.1.below hti.b).below (hb1 o)) an asz
        generalize hq : bindS an = q at *
        obtain ⟨p, bi⟩ := q
        generalize hat : attS l an = q at *
        obtain ⟨n1, n2, n3⟩ := q
        dsimp only at *
        have HR : Hid _ := And.intro hti (And.intro htg (And.intro hB (And.intro hA2 hb1)))
        clear hti htg hB hA2 hb1 hdr a0 a1 a2 hq hat
        obtain ⟨m, rfl⟩ : ∃ m, gk = m + 1 := ⟨gk - 1, by omega⟩
        cases bi
        · go_wp2_with (first | (go_at_call 37; refine Calls.mono (HR.out.2.2.1 _) ?_; rintro e w' ⟨rfl, rfl⟩))
          refine Calls.mono (HR.out.2.2.2.1 _) ?_
          rintro e w3 ⟨rfl, hb3⟩
          have hti3 := (HR.out.1.below (HR.out.2.2.2.2 _)).below hb3
          have hz3' := hb3.size
          simp only [sza] at hz3'
          have hA3 : w3.heap[wr.heap.size]? = some (.cells #[.string an, .string av, .int .i64 ap] 72 (0, 0)) := (hb3.block _ (by simp only [sza]; omega)).trans (nw_heap _ _)
          have hbA : ∀ o, Below w3.heap.size w3 (w3.alloc o) := fun o => (Below.refl _ _).alloc (Nat.le_refl _) o
          have hbB : ∀ o o', Below w3.heap.size w3 ((w3.alloc o).alloc o') := fun o o' => ((Below.refl _ _).alloc (Nat.le_refl _) o).alloc (by simp) o'
          have f2 := fun o => (bl3 (((hbA o).block _ (lt_of hA3)).trans hA3)).2.2
          have f2' := fun o o' => (bl3 (((hbB o o').block _ (lt_of hA3)).trans hA3)).2.2
          have kc := fun o => (bl4 (((hbA o).block _ (lt_of hti3.c)).trans hti3.c)).1
          have kf := fun o => (bl4 (((hbA o).block _ (lt_of hti3.c)).trans hti3.c)).2
          have kc' := fun o o' => (bl4 (((hbB o o').block _ (lt_of hti3.c)).trans hti3.c)).1
          have kf' := fun o o' => (bl4 (((hbB o o').block _ (lt_of hti3.c)).trans hti3.c)).2
          have hlk := fun o => look_n ((hti3.below (hbA o)).m) (n1, n2)
          have H3 : Hid _ := And.intro hti3 (And.intro hA3 (And.intro hbA hbB))
          clear hb3 hti3 hA3 hbA hbB
          by_cases hn3 : n3 = 0
          · subst hn3
            cases hh : hasN (out.map (·.1)) (n1, n2) with
            | true =>
              rw [hh] at hlk
              go_upto_region 16 with fail
              have b1 := f2' (.cells #[.string n1, .string n2] 37) (.cells #[] 99)
              obtain ⟨c00, c01, c02, c03⟩ := kc' (.cells #[.string n1, .string n2] 37) (.cells #[] 99)
              obtain ⟨d00, d01, d02, d03⟩ := kf' (.cells #[.string n1, .string n2] 37) (.cells #[] 99)
              clear f2 f2' kc kf kc' kf' hlk
              have HE : Hid _ := H3.out.1.below (H3.out.2.2.2 (.cells #[.string n1, .string n2] 37) (.cells #[] 99))
              generalize ((w3.alloc (.cells #[.string n1, .string n2] 37)).alloc (.cells #[] 99)) = W at *
              go_region
              go_wp2_with fail
              obtain ⟨q1, q2, q3, q4⟩ := set4 HE.out.b (Nat.le_add_right _ 1) HE.out.c (.string ⟨#[]⟩) (.string ⟨#[]⟩) (.slice none 0 0) (.int .i64 0)
              generalize ((((W.setCell ⟨w.heap.size + 1, 0, none⟩ (.string ⟨#[]⟩)).setCell ⟨w.heap.size + 1, 1, none⟩ (.string ⟨#[]⟩)).setCell ⟨w.heap.size + 1, 2, none⟩ (.slice none 0 0)).setCell ⟨w.heap.size + 1, 3, none⟩ (.int .i64 0)) = W5 at *
              obtain ⟨⟨y0, y1, y2, y3⟩, _⟩ := bl4 (w2 := W5.drew) q1
              refine bodyPost_ret (v := .tuple #[zT, .int .i64 ap, .int .i64 5]) (by simp [results, Try.results28, go_sem, y0, y1, y2, y3]) rfl ⟨q2.drew, ?_⟩
              have e : tagS l nm pl ats = .error (ap, 5) := by
                rw [HH.out.2.2.2.2.2, if_neg (by simp), HR.out.2.1]
                simp [hh]
              rw [e]
            | false =>
              rw [hh] at hlk
              have hsv : ∃ sv, w3.heap[w2.heap.size + 1]? = some (.cells #[.string r1, .string r2, sv, .int .i64 pl] 40 (0, 0)) ∧ w3.ownsRow w.heap.size 74 4 sv out.length (out.flatMap ac) := H3.out.1.t
              obtain ⟨sv, hT3, hR3⟩ := hsv
              obtain ⟨sa, sc, rfl⟩ := row_form hR3
              have hTI := fun o o' => H3.out.1.below (H3.out.2.2.2 o o')
              obtain ⟨W5, ru, m5, g5⟩ := upd_n (hTI (.cells #[.string n1, .string n2] 37) (.cells #[] 99)).m (n1, n2) hh
              have hT4 := ((H3.out.2.2.2 (.cells #[.string n1, .string n2] 37) (.cells #[] 99)).block _ (lt_of hT3)).trans hT3
              have hA4 := ((H3.out.2.2.2 (.cells #[.string n1, .string n2] 37) (.cells #[] 99)).block _ (lt_of H3.out.2.1)).trans H3.out.2.1
              have hN4 := xa2 w3 (.cells #[.string n1, .string n2] 37) (.cells #[] 99)
              have hTb : TI w (w.heap.size + 1) (w2.heap.size + 1) (w2.heap.size + 1 + 1) (r1, r2) pl out ((w3.alloc (.cells #[.string n1, .string n2] 37)).alloc (.cells #[] 99)) := hTI _ _
              have hR4 := row_below hR3 (H3.out.2.2.2 (.cells #[.string n1, .string n2] 37) (.cells #[] 99))
              have hm4 := hTb.m
              have T5 := grown_at g5 hT4 (hm4.ne hT4)
              have A5 := grown_at g5 hA4 (hm4.ne hA4)
              have N5 := grown_at g5 hN4 (hm4.ne hN4)
              have R5 := hR4.kept g5 (.inr (row_mapN hR4 hm4))
              obtain ⟨⟨_, _, x2, _⟩, _, _, fx2, _⟩ := bl4 T5
              obtain ⟨_, x3, x4⟩ := bl3 A5
              obtain ⟨x5, x6, _⟩ := fresh2 N5
              have z2 : ∀ o, (W5.alloc o).cell? ⟨w2.heap.size + 1, 2, none⟩ = some (.slice sa out.length sc) := fun o => (bl4 (((Below.refl W5.heap.size W5).alloc (Nat.le_refl _) o).block _ (lt_of T5) |>.trans T5)).1.2.2.1
              have HF : Hid _ := And.intro hTb (And.intro hT4 (And.intro hR4 (And.intro m5 (And.intro g5 (And.intro R5 T5)))))
              clear hTb hT4 hR4 m5 g5 R5 T5 A5 N5 hm4 hN4 hA4 hR3 hT3 hTI
              go_wp2_with (first | (at_builtin; refine wpList_append_lies _ rfl (.tmp 78) (.tmp 85) 38 rfl w.heap.size 74 i74 z74 4 56 Try.underlying38 hi74 hz0 hz1 hz3 hzc (by decide) (.slice sa out.length sc) out.length (out.flatMap ac) rfl (World.ownsRow.alloc HF.out.2.2.2.2.2.1 _) ⟨W5.heap.size, 0, none⟩ 1 1 (ac ((n1, n2), av, ap)) rfl rfl (World.news_of_block (nw_heap W5 _)) (by intro u hu; simp [ac] at hu; rcases hu with rfl | rfl | rfl | rfl <;> rfl) (by decide) (by unfold maxLen; omega) (by omega) (by have := HF.out.1.b.size; have := HF.out.2.2.2.2.1.size; simp only [sza] at *; omega) _ rfl ?_; intro g2 cap2 w7 hown7 hg7 hat7 hlt7; have T7 := grown_o hg7 ((((Below.refl W5.heap.size W5).alloc (Nat.le_refl _) _).block _ (lt_of HF.out.2.2.2.2.2.2)).trans HF.out.2.2.2.2.2.2) (row_ne HF.out.2.2.2.2.2.1 HF.out.2.2.2.2.2.2 (by decide)); obtain ⟨⟨_, _, v2, _⟩, _, _, fv2, _⟩ := bl4 T7; have H7 : Hid _ := And.intro hown7 (And.intro hg7 hat7); clear hown7 hg7 hat7 T7))
              go_roundg m
              case measure => omega
              case rel =>
                refine ⟨i + 1, out ++ [((n1, n2), av, ap)], rfl, by omega, by simp; omega, ?_, ?_⟩
                · rw [HR.out.2.1]
                  simp [hh]
                · exact TI.done ((n1, n2), av, ap) HF.out.1.b HF.out.1.c HF.out.2.1 HF.out.2.2.1 HF.out.1.m (by omega) (by omega) (by omega) HF.out.2.2.2.1 HF.out.2.2.2.2.1 H7.out.1 H7.out.2.1 (H7.out.2.2.imp id (fun e => by rw [e, sza]))
          · go_upto_region 13 with fail
            have b1 := f2 (.cells #[.string n1, .string n2] 37)
            obtain ⟨c00, c01, c02, c03⟩ := kc (.cells #[.string n1, .string n2] 37)
            obtain ⟨d00, d01, d02, d03⟩ := kf (.cells #[.string n1, .string n2] 37)
            clear f2 f2' kc kf kc' kf' hlk
            have HE : Hid _ := H3.out.1.below (H3.out.2.2.1 (.cells #[.string n1, .string n2] 37))
            generalize (w3.alloc (.cells #[.string n1, .string n2] 37)) = W at *
            go_region
            go_wp2_with fail
            obtain ⟨q1, q2, q3, q4⟩ := set4 HE.out.b (Nat.le_add_right _ 1) HE.out.c (.string ⟨#[]⟩) (.string ⟨#[]⟩) (.slice none 0 0) (.int .i64 0)
            generalize ((((W.setCell ⟨w.heap.size + 1, 0, none⟩ (.string ⟨#[]⟩)).setCell ⟨w.heap.size + 1, 1, none⟩ (.string ⟨#[]⟩)).setCell ⟨w.heap.size + 1, 2, none⟩ (.slice none 0 0)).setCell ⟨w.heap.size + 1, 3, none⟩ (.int .i64 0)) = W5 at *
            obtain ⟨⟨y0, y1, y2, y3⟩, _⟩ := bl4 (w2 := W5.drew) q1
            refine bodyPost_ret (v := .tuple #[zT, .int .i64 ap, .int .i64 n3]) (by simp [results, Try.results28, go_sem, y0, y1, y2, y3]) rfl ⟨q2.drew, ?_⟩
            have e : tagS l nm pl ats = .error (ap, n3) := by
              rw [HH.out.2.2.2.2.2, if_neg (by simp), HR.out.2.1]
              simp [hn3]
            rw [e]
        · go_wp2_with (first | (go_at_call 37; refine Calls.mono (HR.out.2.2.1 _) ?_; rintro e w' ⟨rfl, rfl⟩))
          go_roundg m
          case measure => omega
          case rel =>
            refine ⟨i + 1, out, rfl, by omega, by omega, ?_, HR.out.1.below (HR.out.2.2.2.2 _)⟩
            rw [HR.out.2.1]
            simp
      · obtain rfl : i = ats.length := by omega
        have hgk : gk = 0 := by omega
        subst hgk
        obtain ⟨sv, ht, hr⟩ := hti.t
        obtain ⟨sa, sc, rfl⟩ := row_form hr
        obtain ⟨⟨t0, t1, t2, t3⟩, _⟩ := bl4 ht
        obtain ⟨⟨c0, c1, c2, c3⟩, d0, d1, d2, d3⟩ := bl4 hti.c
        have HT : Hid _ := And.intro hti (And.intro ht (And.intro hr htg))
        clear hti ht hr htg
        go_wp2_with fail
        obtain ⟨q1, q2, q3, q4⟩ := set4 HT.out.1.b (Nat.le_add_right _ 1) HT.out.1.c (.string r1) (.string r2) (.slice sa out.length sc) (.int .i64 pl)
        generalize ((((wr.setCell ⟨w.heap.size + 1, 0, none⟩ (.string r1)).setCell ⟨w.heap.size + 1, 1, none⟩ (.string r2)).setCell ⟨w.heap.size + 1, 2, none⟩ (.slice sa out.length sc)).setCell ⟨w.heap.size + 1, 3, none⟩ (.int .i64 pl)) = W5 at *
        obtain ⟨⟨y0, y1, y2, y3⟩, _⟩ := bl4 q1
        refine bodyPost_ret (v := .tuple #[.agg #[.string r1, .string r2, .slice sa out.length sc, .int .i64 pl], .int .i64 0, .int .i64 0]) (by simp [results, Try.results28, go_sem, y0, y1, y2, y3]) rfl ⟨q2, ?_⟩
        have e : tagS l nm pl ats = .ok ((r1, r2), out) := by
          rw [HH.out.2.2.2.2.2, if_neg (by simp), HT.out.2.2.2]
          simp [tgo]
        rw [e]
        exact ⟨_, rfl, row_same HT.out.2.2.1 (fun k hk => q4 k (fun q => row_ne HT.out.2.2.1 HT.out.1.c (by decide) (by rw [hk, q])))⟩
  · go_upto_region 3 with fail
    have b1 := b0 (.cells #[.string r1, .string r2] 37)
    obtain ⟨c00, c01, c02, c03⟩ := c0 (.cells #[.string r1, .string r2] 37)
    obtain ⟨d00, d01, d02, d03⟩ := d0 (.cells #[.string r1, .string r2] 37)
    clear b0 c0 d0
    have HE : Hid _ := And.intro (H2.out.1.alloc (by omega) (.cells #[.string r1, .string r2] 37)) (H2.out.2.1 (.cells #[.string r1, .string r2] 37))
    generalize (w2.alloc (.cells #[.string r1, .string r2] 37)) = W at *
    go_region
    go_wp2_with fail
    obtain ⟨q1, q2, q3, q4⟩ := set4 HE.out.1 (Nat.le_add_right _ 1) HE.out.2 (.string ⟨#[]⟩) (.string ⟨#[]⟩) (.slice none 0 0) (.int .i64 0)
    generalize ((((W.setCell ⟨w.heap.size + 1, 0, none⟩ (.string ⟨#[]⟩)).setCell ⟨w.heap.size + 1, 1, none⟩ (.string ⟨#[]⟩)).setCell ⟨w.heap.size + 1, 2, none⟩ (.slice none 0 0)).setCell ⟨w.heap.size + 1, 3, none⟩ (.int .i64 0)) = W5 at *
    obtain ⟨⟨y0, y1, y2, y3⟩, _⟩ := bl4 (w2 := W5.drew) q1
    refine bodyPost_ret (v := .tuple #[zT, .int .i64 pl, .int .i64 r3]) (by simp [results, Try.results28, go_sem, y0, y1, y2, y3]) rfl ⟨q2.drew, ?_⟩
    have e : tagS l nm pl ats = .error (pl, r3) := by
      rw [HH.out.2.2.2.2.2, if_pos h3]
    rw [e]
end Go.Proofs.Ytgidbmiahckleaa
