/- The sets: not, empty. -/
import Derived.Test.YtknfipcegmajaaaDoorHM1
import Derived.Test.YtknfipcegmajaaaDoorHJ11
namespace Go.Proofs.YtknfipcegmajaaaDoor
open Go.RowKit
set_option linter.unusedVariables false
set_option linter.unusedSimpArgs false

theorem nw_at {W : World} {X : Nat} (h : W.heap.size = X) (o : Obj) : (W.alloc o).heap[X]? = some o := by subst h; exact nw_heap W o
theorem tx_nil_eq {v : Value} {w : World} {l : List Tx} (h : TxR w v l) : TxR w v l := h
theorem res_sp {W : World} {X : Nat} {cs : Array Value} {fn : Func} {p : Tmp} {tmps : Array Value} (hf : fn.results = #[.cell p 56]) (hp : tmps.getD p undef = .pointer (some ⟨X, 0, none⟩)) (h : W.heap[X]? = some (.cells cs 56 (0, 0))) (hs : cs.size = 2) :
    (results fn tmps).run Tryd.prog W = .ok (.agg cs) W := by
  have hl := run_loadVar_row (P := Tryd.prog) W X 56 56 cs (0, 0) _ h Tryd.underlying56 rfl (by rw [hs]; kernel_rfl)
  have hp' : tmps[p]?.getD undef = .pointer (some ⟨X, 0, none⟩) := by simpa using hp
  simp [results, hf, hp', asAddr, hl]
theorem res_rw {W : World} {X : Nat} {cs : Array Value} {fn : Func} {p : Tmp} {tmps : Array Value} (hf : fn.results = #[.cell p 29]) (hp : tmps.getD p undef = .pointer (some ⟨X, 0, none⟩)) (h : W.heap[X]? = some (.cells cs 29 (0, 0))) (hs : cs.size = 4) :
    (results fn tmps).run Tryd.prog W = .ok (.agg cs) W := by
  have hl := run_loadVar_row (P := Tryd.prog) W X 29 29 cs (0, 0) _ h Tryd.underlying29 rfl (by rw [hs]; kernel_rfl)
  have hp' : tmps[p]?.getD undef = .pointer (some ⟨X, 0, none⟩) := by simpa using hp
  simp [results, hf, hp', asAddr, hl]
theorem res_w2 {W : World} {X : Nat} {cs : Array Value} {fn : Func} {p q : Tmp} {tmps : Array Value} (hf : fn.results = #[.cell p 25, .tmp q]) (hp : tmps.getD p undef = .pointer (some ⟨X, 0, none⟩)) (h : W.heap[X]? = some (.cells cs 25 (0, 0))) (hs : cs.size = 4) :
    (results fn tmps).run Tryd.prog W = .ok (.tuple #[.agg cs, tmps.getD q undef]) W := by
  have hl := run_loadVar_row (P := Tryd.prog) W X 25 25 cs (0, 0) _ h Tryd.underlying25 rfl (by rw [hs]; kernel_rfl)
  have hp' : tmps[p]?.getD undef = .pointer (some ⟨X, 0, none⟩) := by simpa using hp
  simp [results, hf, hp', asAddr, hl]
theorem res_r2 {W : World} {X : Nat} {cs : Array Value} {fn : Func} {p q : Tmp} {tmps : Array Value} (hf : fn.results = #[.cell p 29, .tmp q]) (hp : tmps.getD p undef = .pointer (some ⟨X, 0, none⟩)) (h : W.heap[X]? = some (.cells cs 29 (0, 0))) (hs : cs.size = 4) :
    (results fn tmps).run Tryd.prog W = .ok (.tuple #[.agg cs, tmps.getD q undef]) W := by
  have hl := run_loadVar_row (P := Tryd.prog) W X 29 29 cs (0, 0) _ h Tryd.underlying29 rfl (by rw [hs]; kernel_rfl)
  have hp' : tmps[p]?.getD undef = .pointer (some ⟨X, 0, none⟩) := by simpa using hp
  simp [results, hf, hp', asAddr, hl]
theorem ret_sp {W : World} {X : Nat} {fn : Func} {p : Tmp} {a : Act} {Q : Ending → World → Prop} (hf : fn.results = #[.cell p 56]) (hp : a.tmps.getD p undef = .pointer (some ⟨X, 0, none⟩)) (hd : a.defers = []) (h : ∃ cs : Array Value, W.heap[X]? = some (.cells cs 56 (0, 0)) ∧ cs.size = 2 ∧ Q (.returned (.agg cs)) W) : bodyPost Tryd.prog fn Q .ret a W :=
  bodyPost_ret (res_sp hf hp h.choose_spec.1 h.choose_spec.2.1) hd h.choose_spec.2.2
theorem ret_rw {W : World} {X : Nat} {fn : Func} {p : Tmp} {a : Act} {Q : Ending → World → Prop} (hf : fn.results = #[.cell p 29]) (hp : a.tmps.getD p undef = .pointer (some ⟨X, 0, none⟩)) (hd : a.defers = []) (h : ∃ cs : Array Value, W.heap[X]? = some (.cells cs 29 (0, 0)) ∧ cs.size = 4 ∧ Q (.returned (.agg cs)) W) : bodyPost Tryd.prog fn Q .ret a W :=
  bodyPost_ret (res_rw hf hp h.choose_spec.1 h.choose_spec.2.1) hd h.choose_spec.2.2
theorem ret_w2 {W : World} {X : Nat} {fn : Func} {p q : Tmp} {a : Act} {Q : Ending → World → Prop} (hf : fn.results = #[.cell p 25, .tmp q]) (hp : a.tmps.getD p undef = .pointer (some ⟨X, 0, none⟩)) (hd : a.defers = []) (h : ∃ cs : Array Value, W.heap[X]? = some (.cells cs 25 (0, 0)) ∧ cs.size = 4 ∧ Q (.returned (.tuple #[.agg cs, a.tmps.getD q undef])) W) : bodyPost Tryd.prog fn Q .ret a W :=
  bodyPost_ret (res_w2 hf hp h.choose_spec.1 h.choose_spec.2.1) hd h.choose_spec.2.2
theorem ret_r2 {W : World} {X : Nat} {fn : Func} {p q : Tmp} {a : Act} {Q : Ending → World → Prop} (hf : fn.results = #[.cell p 29, .tmp q]) (hp : a.tmps.getD p undef = .pointer (some ⟨X, 0, none⟩)) (hd : a.defers = []) (h : ∃ cs : Array Value, W.heap[X]? = some (.cells cs 29 (0, 0)) ∧ cs.size = 4 ∧ Q (.returned (.tuple #[.agg cs, a.tmps.getD q undef])) W) : bodyPost Tryd.prog fn Q .ret a W :=
  bodyPost_ret (res_r2 hf hp h.choose_spec.1 h.choose_spec.2.1) hd h.choose_spec.2.2
theorem sza2 (w : World) (a b : Obj) : ((w.alloc a).alloc b).heap.size = w.heap.size + 1 + 1 := by rw [sza, sza]
theorem bel2 (w : World) (a b : Obj) : Below w.heap.size w ((w.alloc a).alloc b) := ((Below.refl _ _).alloc (Nat.le_refl _) _).alloc (by rw [sza]; omega) _
theorem bel1 (w : World) (a : Obj) : Below w.heap.size w (w.alloc a) := (Below.refl _ _).alloc (Nat.le_refl _) _
set_option maxHeartbeats 1000000 in
theorem not_p (s : Sp) (v : Value) (w : World) (h : SpV w v s) : Calls Tryd.prog 36 #[v] w fun e w' => ∃ v', e = .returned v' ∧ SpV w' v' s.not ∧ Below w.heap.size w w' := by
  obtain ⟨sl, rfl, h⟩ := h
  obtain ⟨a, c, rfl, hc⟩ := h.len
  have HX : Hid (TxR w (.slice a s.l.length c) s.l) := h
  clear h
  go_enter Tryd.func36, Tryd.ntmps36
  go_wp2_with fail
  refine ret_sp (X := w.heap.size + 1) Tryd.results36 rfl rfl ⟨_, nw_at (sza _ _) _, rfl, ?_⟩
  exact ⟨_, rfl, ⟨_, rfl, HX.out.below (bel2 _ _ _)⟩, bel2 _ _ _⟩
set_option maxHeartbeats 1000000 in
theorem empty_p (s : Sp) (v : Value) (w : World) (h : SpV w v s) : Calls Tryd.prog 38 #[v] w fun e w' => e = .returned (.bool s.empty) ∧ Below w.heap.size w w' := by
  obtain ⟨sl, rfl, h⟩ := h
  obtain ⟨a, c, rfl, hc⟩ := h.len
  clear h
  go_enter Tryd.func38, Tryd.ntmps38
  go_wp2_with fail
  · rename_i g
    go_ret
    exact ⟨ret_bool (by simp [Sp.empty, g]), bel1 _ _⟩
  · rename_i g
    go_ret
    refine ⟨ret_bool ?_, bel1 _ _⟩
    cases hl : s.l <;> simp [Sp.empty, g, hl]
    omega
/-- A block that holds a row of texts. -/
theorem blk_tx {w : World} {X : Nat} {l : List Tx} {cs : Array Value} (h : w.heap[X]? = some (.cells cs 9 (0, 0))) (hc : cs = (tc l).toArray) : TxR w (.slice (some ⟨X, 0, none⟩) l.length l.length) l := by
  subst hc
  refine ⟨_, _, rfl, Nat.le_refl _, .inr ⟨X, 0, rfl, lt_of h, fun j hj => ?_⟩⟩
  simp [World.cell?, h, tc, hj]
theorem nw_below {W : World} {X : Nat} {o o' : Obj} (h : W.heap[X]? = some o) : (W.alloc o').heap[X]? = some o := (Below.heap_alloc _ _ _ (lt_of h)).trans h
theorem emp_iff {N : ByteArray} : N.toList.isEmpty = true ↔ N = ⟨#[]⟩ := by
  constructor
  · intro h
    by_cases g : N.size = 0
    · exact Ch.size_zero g
    · rw [Ch.toList_ne g] at h; cases h
  · rintro rfl; rw [Lib.toList_data]; rfl
theorem bel3 (w : World) (a b c : Obj) : Below w.heap.size w (((w.alloc a).alloc b).alloc c) := (bel2 w a b).alloc (by rw [sza, sza]; omega) _
set_option maxHeartbeats 2000000 in
theorem allowed_p (W : Wd) (v : Value) (w : World) (h : WdV w v W) : Calls Tryd.prog 34 #[v] w fun e w' => ∃ v', e = .returned v' ∧ SpV w' v' (alw W) ∧ Below w.heap.size w w' := by
  obtain ⟨sl, rfl, h⟩ := h
  obtain ⟨a, c, rfl, hc⟩ := h.len
  have HX : Hid (TxR w (.slice a W.sp.length c) W.sp) := h
  clear h
  go_enter Tryd.func34, Tryd.ntmps34
  go_wp2_with fail
  · rename_i h1
    have e : alw W = ⟨true, []⟩ := by unfold alw; rw [if_pos (by simpa using h1)]
    rw [e]
    refine ret_sp (X := w.heap.size + 1) Tryd.results34 rfl rfl ⟨_, nw_at (sza _ _) _, rfl, ?_⟩
    exact ⟨_, rfl, ⟨_, rfl, TxR.nil _ _ _⟩, bel2 _ _ _⟩
  · rename_i h1 h2 h3
    have e : alw W = ⟨true, [[]]⟩ := by unfold alw; rw [if_neg (by simpa using h1), if_pos h2, if_pos (sB_nil_iff.1 (emp_iff.1 h3))]
    rw [e]
    refine ret_sp (X := w.heap.size + 1) Tryd.results34 rfl rfl ⟨_, nw_below (W := (w.alloc _).alloc _) (nw_at (sza w _) _), rfl, ?_⟩
    exact ⟨_, rfl, ⟨_, rfl, blk_tx (l := [[]]) (cs := #[.string ⟨#[]⟩]) (nw_at (sza2 w _ _) _) rfl⟩, bel3 _ _ _ _⟩
  · rename_i h1 h2 h3
    have hne : ¬ W.nt = [] := fun g => by rw [emp_iff.2 (sB_nil_iff.2 g)] at h3; cases h3
    have e : alw W = ⟨true, [[], W.nt]⟩ := by unfold alw; rw [if_neg (by simpa using h1), if_pos h2, if_neg hne]
    rw [e]
    refine ret_sp (X := w.heap.size + 1) Tryd.results34 rfl rfl ⟨_, nw_below (W := (w.alloc _).alloc _) (nw_at (sza w _) _), rfl, ?_⟩
    exact ⟨_, rfl, ⟨_, rfl, blk_tx (l := [[], W.nt]) (cs := #[.string ⟨#[]⟩, .string (sB W.nt)]) (nw_at (sza2 w _ _) _) rfl⟩, bel3 _ _ _ _⟩
  · rename_i h1 h2 h3 h4
    have e : alw W = ⟨false, W.sp⟩ := by unfold alw; rw [if_neg (by simpa using h1), if_neg h2, if_pos (by simpa using h4)]
    rw [e]
    refine ret_sp (X := w.heap.size + 1) Tryd.results34 rfl rfl ⟨_, nw_at (sza _ _) _, rfl, ?_⟩
    exact ⟨_, rfl, ⟨_, rfl, HX.out.below (bel2 _ _ _)⟩, bel2 _ _ _⟩
  · rename_i h1 h2 h3 h4
    have e : alw W = ⟨false, []⟩ := by unfold alw; rw [if_neg (by simpa using h1), if_neg h2, if_neg (by simpa using h4)]
    rw [e]
    refine ret_sp (X := w.heap.size + 1) Tryd.results34 rfl rfl ⟨_, nw_at (sza _ _) _, rfl, ?_⟩
    exact ⟨_, rfl, ⟨_, rfl, TxR.nil _ _ _⟩, bel2 _ _ _⟩
theorem getLastD_ix {l : List Tx} (h : 0 < l.length) : l.getLastD [] = l[l.length - 1]'(by omega) := by
  rw [List.getLastD_eq_getLast?, List.getLast?_eq_getElem?, List.getElem?_eq_getElem (by omega)]
  rfl
def SdQ (s : Sp) (p : Int) (w : World) (e : Ending) (w' : World) : Prop := ∃ v', e = .returned (.tuple #[v', .bool (saidS s p).2]) ∧ WdV w' v' (saidS s p).1 ∧ Below w.heap.size w w'
set_option maxHeartbeats 2000000 in
theorem said_nil (s : Sp) (p : Int) (v : Value) (w : World) (h : SpV w v s) (h0 : s.l = []) : Calls Tryd.prog 32 #[v, .int .i64 p] w fun e w' => SdQ s p w e w' := by
  obtain ⟨sl, rfl, h⟩ := h
  obtain ⟨a, c, rfl, hc⟩ := h.len
  have HX : Hid (TxR w (.slice a s.l.length c) s.l) := h
  clear h
  rw [h0] at HX
  rw [h0]
  change Hid (TxR w (.slice a 0 c) []) at HX
  show Calls Tryd.prog 32 #[spV s (.slice a 0 c), .int .i64 p] w _
  have H0 : Hid _ := h0
  clear h0
  go_enter Tryd.func32, Tryd.ntmps32
  go_wp2_with fail
  · rename_i g
    refine ret_w2 (X := w.heap.size + 1) Tryd.results32 rfl rfl ⟨_, nw_at (sza _ _) _, rfl, ?_⟩
    have e : saidS s p = (⟨3, [], s.l, p⟩, true) := by unfold saidS; rw [if_pos (by simpa using g)]
    unfold SdQ
    rw [e, H0.out]
    exact ⟨_, rfl, ⟨_, rfl, HX.out.below (bel2 _ _ _)⟩, bel2 _ _ _⟩
  · rename_i g
    refine ret_w2 (X := w.heap.size + 1) Tryd.results32 rfl rfl ⟨_, nw_at (sza _ _) _, rfl, ?_⟩
    have e : saidS s p = (⟨1, [], [], p⟩, true) := by unfold saidS; rw [if_neg (by simpa using g), if_pos H0.out]
    unfold SdQ
    rw [e]
    exact ⟨_, rfl, ⟨_, rfl, TxR.nil _ _ _⟩, bel2 _ _ _⟩
set_option maxHeartbeats 2000000 in
theorem said_cons (s : Sp) (p : Int) (v : Value) (w : World) (h : SpV w v s) (hl : s.l.length < 100000) (x : Tx) (l : List Tx) (h0 : s.l = x :: l) : Calls Tryd.prog 32 #[v, .int .i64 p] w fun e w' => SdQ s p w e w' := by
  obtain ⟨sl, rfl, h⟩ := h
  obtain ⟨a, c, rfl, hc⟩ := h.len
  have hp : 0 < s.l.length := by rw [h0]; simp
  obtain ⟨g, off, rfl, hg, hat⟩ := tx_at h hp
  have HX : Hid (TxR w (.slice (some ⟨g, off, none⟩) s.l.length c) s.l) := h
  have e0 : ((w.alloc (.cells #[.bool s.o, .slice (some ⟨g, off, none⟩) s.l.length c] 56)).alloc (.cells #[.int .i64 0, .string ⟨#[]⟩, .slice none 0 0, .int .i64 0] 25)).cell? ⟨g, off, none⟩ = some (.string (sB (s.l[0]'hp))) := ((bel2 w _ _).cell (p := ⟨g, off, none⟩) hg).trans (hat 0 hp)
  have e1 : ((w.alloc (.cells #[.bool s.o, .slice (some ⟨g, off, none⟩) s.l.length c] 56)).alloc (.cells #[.int .i64 0, .string ⟨#[]⟩, .slice none 0 0, .int .i64 0] 25)).cell? ⟨g, off + (s.l.length - 1), none⟩ = some (.string (sB (s.l.getLastD []))) := by
    rw [getLastD_ix (by omega)]
    exact ((bel2 w _ _).cell (p := ⟨g, off + (s.l.length - 1), none⟩) hg).trans (hat _ (by omega))
  have x0 : s.l[0] = x := by simp [h0]
  obtain ⟨y, hy⟩ : ∃ y, s.l.getLastD [] = y := ⟨_, rfl⟩
  rw [x0] at e0
  rw [hy] at e1
  have HY : Hid _ := And.intro h0 hy
  clear h hat h0 hy x0 hp
  obtain ⟨N, hN⟩ : ∃ N, sB x = N := ⟨_, rfl⟩
  obtain ⟨M, hM⟩ : ∃ M, sB y = M := ⟨_, rfl⟩
  rw [hN] at e0
  rw [hM] at e1
  have HN : Hid _ := And.intro hN hM
  clear hN hM
  have hp : 0 < s.l.length := by rw [HY.out.1]; simp
  generalize hn : s.l.length = n at *
  have Hn : Hid _ := hn
  clear hn
  go_enter Tryd.func32, Tryd.ntmps32
  go_wp2_with fail
  · rename_i g
    refine ret_w2 (X := w.heap.size + 1) Tryd.results32 rfl rfl ⟨_, nw_at (sza _ _) _, rfl, ?_⟩
    have e : saidS s p = (⟨3, [], s.l, p⟩, true) := by unfold saidS; rw [if_pos (by simpa using g)]
    unfold SdQ
    rw [e]
    exact ⟨_, rfl, ⟨_, rfl, HX.out.below (bel2 _ _ _)⟩, bel2 _ _ _⟩
  · rename_i g1 g2 g3 g4
    refine ret_w2 (X := w.heap.size + 1) Tryd.results32 rfl rfl ⟨_, nw_at (sza _ _) _, rfl, ?_⟩
    have hx : x = [] := sB_nil_iff.1 (HN.out.1.trans (emp_iff.1 g4))
    have e : saidS s p = (⟨2, y, [], p⟩, true) := by
      unfold saidS
      rw [if_neg (by simpa using g1), if_neg (by rw [HY.out.1]; simp), if_pos ⟨by rw [Hn.out]; omega, by rw [HY.out.1, hx]; rfl⟩, HY.out.2]
    unfold SdQ
    rw [e]
    exact ⟨_, rfl, ⟨_, by rw [← HN.out.2], TxR.nil _ _ _⟩, bel2 _ _ _⟩
  · rename_i g1 g2 g3 g4
    refine ret_w2 (X := w.heap.size + 1) Tryd.results32 rfl rfl ⟨_, nw_at (sza _ _) _, rfl, ?_⟩
    have e : saidS s p = (Wd.zero, false) := by
      unfold saidS
      rw [if_neg (by simpa using g1), if_neg (by rw [HY.out.1]; simp), if_neg (fun c => by
        have hx : x = [] := by have := c.2; rw [HY.out.1] at this; exact this
        rw [← HN.out.1, emp_iff.2 (sB_nil_iff.2 hx)] at g4
        cases g4)]
    unfold SdQ
    rw [e]
    exact ⟨_, rfl, ⟨_, rfl, TxR.nil _ _ _⟩, bel2 _ _ _⟩
  · rename_i g1 g2 g3
    refine ret_w2 (X := w.heap.size + 1) Tryd.results32 rfl rfl ⟨_, nw_at (sza _ _) _, rfl, ?_⟩
    have e : saidS s p = (Wd.zero, false) := by
      unfold saidS
      rw [if_neg (by simpa using g1), if_neg (by rw [HY.out.1]; simp), if_neg (fun c => by
        have := c.1
        rw [Hn.out] at this
        omega)]
    unfold SdQ
    rw [e]
    exact ⟨_, rfl, ⟨_, rfl, TxR.nil _ _ _⟩, bel2 _ _ _⟩
end Go.Proofs.YtknfipcegmajaaaDoor
