/- NsCloses: the walk. -/
import Derived.Test.YtgidbmiahckleaaFew
import Derived.Test.YtgidbmiahckleaaNs14
import Derived.Deep.RegionHeld3
namespace Go.Proofs.Ytgidbmiahckleaa
open Go.RowKit
set_option linter.unusedVariables false

/-- A scope, seen from an earlier world. -/
structure ST (O0 : Nat → Prop) (wB : World) (P : Nat) (O : Nat → Prop) (l : Bs) (stk : List Hs) (wr : World) : Prop where
  ss : SS O wr P l stk
  fr : Fro O0 wB wr
  oo : ∀ k, O k → O0 k ∨ wB.heap.size ≤ k
theorem ST.step {O0 O O' : Nat → Prop} {wB wr w' : World} {P : Nat} {l l' : Bs} {stk stk' : List Hs} (h : ST O0 wB P O l stk wr) (hf : Fro O wr w') (hO : ∀ k, O' k → O k ∨ wr.heap.size ≤ k) (hs : SS O' w' P l' stk') : ST O0 wB P O' l' stk' w' := by
  have hz := h.fr.size
  refine ⟨hs, h.fr.trans' hf (fun i hi q => ?_), fun k hk => ?_⟩
  · rcases h.oo i q with p | p
    · exact p
    · omega
  · rcases hO k hk with p | p
    · exact h.oo k p
    · exact .inr (by omega)
theorem ST.below {O0 O : Nat → Prop} {wB wr w' : World} {P : Nat} {l : Bs} {stk : List Hs} (h : ST O0 wB P O l stk wr) (hb : Below wr.heap.size wr w') : ST O0 wB P O l stk w' := ⟨h.ss.below hb, h.fr.trans (Fro.below hb), h.oo⟩
theorem ST.start {O : Nat → Prop} {w : World} {P : Nat} {l : Bs} {stk : List Hs} (h : SS O w P l stk) : ST O w P O l stk w := ⟨h, Fro.refl _ _, fun k hk => .inl hk⟩
/-- What lies below w stands. -/
theorem ST.bel {O0 O : Nat → Prop} {w wB wr : World} {P : Nat} {l : Bs} {stk : List Hs} (h : ST O0 wB P O l stk wr) (hb : Below w.heap.size w wB) (hO : ∀ k, O0 k → w.heap.size ≤ k) : Below w.heap.size w wr ∧ ∀ k, O k → w.heap.size ≤ k := by
  have hz := hb.size
  refine ⟨hb.trans ⟨h.fr.os, h.fr.tape, h.fr.output, h.fr.size, fun k hk => h.fr.block k (by omega) (fun q => by have := hO k q; omega)⟩, fun k hk => ?_⟩
  rcases h.oo k hk with p | p
  · exact hO k p
  · omega
theorem ActOk.below {w w' : World} {d : AD} (h : ActOk w d) (hb : Below w.heap.size w w') : ActOk w' d := ⟨h.zn, h.za, h.zl, h.at'.below hb, h.cp, h.zs⟩
/-- The state behind an Open that adds to what was there. -/
theorem nxt_unw {l0 l l' : Bs} {stk0 hx stk' : List Hs} (hn : Nxt l (hx ++ stk0) l' stk') (hu : unw (spc l) hx = spc l0) : ∃ hx', stk' = hx' ++ stk0 ∧ unw (spc l') hx' = spc l0 ∧ hx'.length ≤ hx.length + 1 := by
  rcases hn with ⟨rfl, e⟩ | ⟨h, rfl, e⟩
  · exact ⟨hx, rfl, by rw [e]; exact hu, by omega⟩
  · exact ⟨h :: hx, rfl, by rw [unw, e]; exact hu, by simp⟩
theorem open_st {O0 O : Nat → Prop} {w wB wr : World} {P : Nat} {l : Bs} {stk : List Hs} {d : AD} (hS : ST O0 wB P O l stk wr) (hb : Below w.heap.size w wB) (hO : ∀ k, O0 k → w.heap.size ≤ k) (hd : ActOk w d) (hn : stk.length ≤ 1000000) (hc : d.ats.length ≤ 16384) (j : Nat) :
    Calls Try.prog 12 #[.pointer (some ⟨P, 0, none⟩), evV 1 0 d.nm ⟨#[]⟩ d.a d.ats.length d.cap] (wr.drewN j) fun e w' => (∃ v, e = .returned v) ∧ Below w.heap.size w w' ∧ ∃ O' l' stk', ST O0 wB P O' l' stk' w' ∧ Nxt l stk l' stk' ∧ l'.length ≤ l.length + 16384 := by
  have hSj := hS.below (Below.drewN' j)
  obtain ⟨hbw, hOw⟩ := hSj.bel hb hO
  have hz := hd.zn
  have hok := hd.at'.below hbw
  have hop := open_any hSj.ss 1 0 d.nm ⟨#[]⟩ (by unfold maxLen; omega) (cap := d.cap) hok hd.cp (fun hne g off e q => by
    rcases hd.at' with e' | ⟨g', off', e', hg', _⟩
    · exact hne e'
    · rw [e'] at e; simp at e
      have := hOw g q
      omega) hn (by omega)
  refine Calls.mono hop ?_
  rintro e w' ⟨hv, hf, O', l', stk', h1, h2, h3, h4⟩
  have hst := hSj.step hf h1 h2
  exact ⟨hv, (hst.bel hb hO).1, O', l', stk', hst, h3, by omega⟩
theorem st68 : Try.prog.underlying 68 = some (.struct (Try.prog.fieldsOf 68)) := by kernel_rfl
theorem eq68 (a b c d : ByteArray) (w : World) : (Op.equal 68 (.agg #[.string a, .string b]) (.agg #[.string c, .string d])).run Try.prog w = .ok ((a.toList == c.toList) && (b.toList == d.toList)) w := by
  have h := run_equalIn_agg (P := Try.prog) w 9999 68 #[.string a, .string b] #[.string c, .string d] st68 (by kernel_rfl)
  unfold Op.equal
  refine h.trans ?_
  simp [go_sem, Op.eqFields]
  by_cases h1 : a.toList = c.toList <;> by_cases h2 : b.toList = d.toList <;> simp [h1, h2]
theorem filt_nk {l : Bs} (h : NK l) : NK (l.filter nonE) := (List.filter_sublist.map _).nodup h
/-- What Binds tells at two times, where the same is bound. -/
theorem binds_same {l l' b b' : Bs} (h : NK l) (h' : NK l') (e : spc l' = spc l) (p1 : b.Perm (l.filter nonE)) (p2 : b'.Perm (l'.filter nonE)) (s1 : Srt b) (s2 : Srt b') : b' = b := by
  have hp : l'.Perm l := perm_of h' h (fun s => by rw [e])
  have n1 : NK b := (p1.map _).nodup_iff.2 (filt_nk h)
  exact (srt_uniq n1 (p1.trans (((hp.filter nonE)).symm.trans p2.symm)) s1 s2).symm
theorem bc_cell {w : World} {base g cap : Nat} {b : Bs} (h : w.ownsRow base 68 2 (.slice (some ⟨g, 0, none⟩) b.length cap) b.length (b.flatMap bc)) (i : Nat) (hi : i < b.length) : w.cell? ⟨g, i * 2, none⟩ = some (.string (b[i]'hi).1) ∧ w.cell? ⟨g, i * 2 + 1, none⟩ = some (.string (b[i]'hi).2) := by
  have k0 := h.cells (g := g) rfl (i * 2) _ (bc_get b (i * 2) (by omega))
  have k1 := h.cells (g := g) rfl (i * 2 + 1) _ (bc_get b (i * 2 + 1) (by omega))
  rw [addr_add0] at k0 k1
  have e1 : i * 2 / 2 = i := by omega
  have e2 : i * 2 % 2 = 0 := by omega
  have e3 : (i * 2 + 1) / 2 = i := by omega
  have e4 : (i * 2 + 1) % 2 = 1 := by omega
  have e5 : b.toArray[i]! = b[i]'hi := by rw [getElem!_pos _ i (by simpa using hi)]; simp
  rw [e1, e2, e5] at k0
  rw [e3, e4, e5] at k1
  exact ⟨k0, k1⟩
set_option maxRecDepth 100000 in
set_option maxHeartbeats 6400000 in
theorem closes_s (a0 a1 : Option Addr) (c0 c1 : Nat) (l0 l1 : List AD) (ask : ByteArray) (w : World) (hA0 : ActO w a0 l0) (hA1 : ActO w a1 l1) (hask : ask.size ≤ maxLen) : Calls Try.prog 4 #[.slice a0 l0.length c0, .slice a1 l1.length c1, .string ask] w fun e w' => e = .returned (.bool true) ∧ Below w.heap.size w w' := by
  have HA : Hid _ := And.intro hA0 (And.intro hA1 hask)
  clear hA0 hA1 hask
  have hq := eq37
  have hF0 := fun W (hb : Below w.heap.size w W) => few_s a0 c0 l0 W (by
    rcases HA.out.1 with h | ⟨g, off, rfl, h1, h2, h3⟩
    · exact .inl h
    · refine .inr ⟨g, off, rfl, Nat.lt_of_lt_of_le h1 hb.size, h2, fun i hi => ?_⟩
      obtain ⟨q0, q1, q2, q3, q4⟩ := h3 i hi
      exact ⟨(hb.cell h1).trans q0, (hb.cell h1).trans q1, (hb.cell h1).trans q2, (hb.cell h1).trans q3, q4.below hb⟩)
  have hF1 := fun W (hb : Below w.heap.size w W) => few_s a1 c1 l1 W (by
    rcases HA.out.2.1 with h | ⟨g, off, rfl, h1, h2, h3⟩
    · exact .inl h
    · refine .inr ⟨g, off, rfl, Nat.lt_of_lt_of_le h1 hb.size, h2, fun i hi => ?_⟩
      obtain ⟨q0, q1, q2, q3, q4⟩ := h3 i hi
      exact ⟨(hb.cell h1).trans q0, (hb.cell h1).trans q1, (hb.cell h1).trans q2, (hb.cell h1).trans q3, q4.below hb⟩)
  have HF : Hid _ := And.intro hF0 hF1
  clear hF0 hF1
  by_cases hk : 1000 < (ask.size : Int)
  · go_enter Try.func4, Try.ntmps4
    go_wp2_with (first | (go_at_call 7; refine Calls.mono (known_s _) ?_; rintro e w1 ⟨rfl, hb1⟩))
    refine Calls.mono (HF.out.1 _ hb1) ?_
    rintro e w2 ⟨b0, rfl, hf0, hb2⟩
    have hb2' := hb1.trans (hb2.mono hb1.size)
    cases b0
    · go_wp2_with fail
      go_ret
      exact ⟨rfl, hb2'⟩
    go_wp2_with fail
    refine Calls.mono (HF.out.2 _ hb2') ?_
    rintro e w3 ⟨b1, rfl, hf1, hb3⟩
    have hb3' := hb2'.trans (hb3.mono hb2'.size)
    cases b1
    · go_wp2_with fail
      go_ret
      exact ⟨rfl, hb3'⟩
    go_wp2_with fail
    go_ret
    exact ⟨rfl, hb3'⟩
  go_enter Try.func4, Try.ntmps4
  go_wp2_with (first | (go_at_call 7; refine Calls.mono (known_s _) ?_; rintro e w1 ⟨rfl, hb1⟩))
  refine Calls.mono (HF.out.1 _ hb1) ?_
  rintro e w2 ⟨b0, rfl, hf0, hb2⟩
  have HF0 : Hid _ := hf0
  clear hf0
  have hb2' := hb1.trans (hb2.mono hb1.size)
  cases b0
  · go_wp2_with fail
    go_ret
    exact ⟨rfl, hb2'⟩
  go_wp2_with fail
  refine Calls.mono (HF.out.2 _ hb2') ?_
  rintro e w3 ⟨b1, rfl, hf1, hb3⟩
  have HF1 : Hid _ := hf1
  clear hf1
  have hb3' := hb2'.trans (hb3.mono hb2'.size)
  cases b1
  · go_wp2_with fail
    go_ret
    exact ⟨rfl, hb3'⟩
  obtain ⟨hl0, hm0⟩ := HF0.out (by simp)
  obtain ⟨hl1, hm1⟩ := HF1.out (by simp)
  have hN : ST (fun k => k = w3.heap.size) (w3.alloc (.cells #[.map none, .slice none 0 0] 81)) w3.heap.size (fun k => k = w3.heap.size) [] [] (w3.alloc (.cells #[.map none, .slice none 0 0] 81)) := ST.start (new_ss w3)
  have hbN : Below w.heap.size w (w3.alloc (.cells #[.map none, .slice none 0 0] 81)) := hb3'.alloc hb3'.size _
  have hON : ∀ k, k = w3.heap.size → w.heap.size ≤ k := fun k e => by have := hb3'.size; omega
  have HN : Hid _ := And.intro hN (And.intro hbN (And.intro hm0 (And.intro hm1 hON)))
  clear hN hbN hm0 hm1 HF0 HF1 hb2 hb3 HF hON
  go_wp2_with (first | (go_at_call 9; refine Calls.mono (new_s _) ?_; rintro e w' ⟨rfl, rfl⟩))
  generalize hP : w3.heap.size = P at *
  generalize (w3.alloc (.cells #[.map none, .slice none 0 0] 81)) = wN at *
  go_loopg [8] l0.length (fun m v8 wr => ∃ (i : Nat) (O : Nat → Prop) (l : Bs) (stk : List Hs), v8 = .int .i64 i ∧ i + m = l0.length ∧ ST (fun k => k = P) wN P O l stk wr ∧ l.length ≤ i * 16384 ∧ stk.length ≤ i)
  case atStart => exact ⟨0, _, [], [], rfl, by omega, HN.out.1, by simp, by simp⟩
  case round =>
    obtain ⟨i, O, l, stk, rfl, him, hst, hll, hsl⟩ := hrel
    by_cases hi : i < l0.length
    · obtain ⟨m, rfl⟩ : ∃ m, gk = m + 1 := ⟨gk - 1, by omega⟩
      rcases HA.out.1 with he | ⟨g, off, rfl, hgl, _, hcell⟩
      · rw [he] at hi; simp at hi
      obtain ⟨_, q1, q2, _, q4⟩ := hcell i hi
      obtain ⟨hbw, hOw⟩ := hst.bel HN.out.2.1 HN.out.2.2.2.2
      have hdc := HN.out.2.2.1 (l0[i]'hi) (List.getElem_mem hi)
      have hop := open_st hst HN.out.2.1 HN.out.2.2.2.2 q4 (by omega) hdc 1
      have e1 := (hbw.cell (p := ⟨g, off + i * 4 + 1, none⟩) hgl).trans q1
      have e2 := (hbw.cell (p := ⟨g, off + i * 4 + 2, none⟩) hgl).trans q2
      generalize (l0[i]'hi) = D at *
      obtain ⟨op, nm, aa, ac', ats, dask⟩ := D
      dsimp only at *
      have HI : Hid _ := And.intro hop (And.intro q1 q2)
      clear hop hst q1 q2 q4 hcell hbw hOw
      go_wp2_with fail
      go_region_held3 (fun W => W.cell? ⟨g, off + i * 4 + 1, none⟩ = some (.string nm) ∧ W.cell? ⟨g, off + i * 4 + 2, none⟩ = some (.slice aa ats.length ac')) (go_keep) (first | (go_at_call 12; refine Calls.mono HI.out.1 ?_; rintro e w' ⟨⟨v, rfl⟩, hbw', hst'⟩; have x1 := (hbw'.cell (p := ⟨g, off + i * 4 + 1, none⟩) hgl).trans HI.out.2.1; have x2 := (hbw'.cell (p := ⟨g, off + i * 4 + 2, none⟩) hgl).trans HI.out.2.2; have HS : Hid _ := hst'; clear hst'))
      go_wp2_with fail
      go_roundg m
      case measure => omega
      case rel =>
        obtain ⟨O', l', stk', r1, r2, r3⟩ := HS.out
        refine ⟨i + 1, O', l', stk', rfl, by omega, r1, by omega, ?_⟩
        rcases r2 with ⟨e, _⟩ | ⟨h, e, _⟩
        · rw [e]; omega
        · rw [e]; simp; omega
    · obtain rfl : i = l0.length := by omega
      have hgk : gk = 0 := by omega
      subst hgk
      have hre := resolve_sc hst.ss.sc ask HA.out.2.2
      have hlt : l.length ≤ 1000000 := by omega
      have hse : stk.length ≤ 60 := by omega
      generalize hrs : resS l ask = rs at *
      obtain ⟨r1, r2, r3⟩ := rs
      dsimp only at *
      have HI : Hid _ := And.intro hst (And.intro hre hrs)
      clear hst hre hrs hll hsl
      go_wp2_with fail
      refine Calls.mono HI.out.2.1 ?_
      rintro e w4 ⟨rfl, hb4⟩
      have hb5 : ∀ o, Below wr.heap.size wr (w4.alloc o) := fun o => hb4.alloc hb4.size o
      have hbi := fun o => binds_s sort_ok sort_nil (HI.out.1.ss.sc.below (hb5 o)) hlt
      have hz4 := hb4.size
      have H4 : Hid _ := And.intro hb5 hbi
      clear hb5 hbi hb4
      go_wp2_with fail
      refine Calls.mono (H4.out.2 _) ?_
      rintro e w6 ⟨v1, bl1, rfl, hp1, hs1, hr1, hb6⟩
      obtain ⟨va, vc, rfl⟩ := row_form hr1
      have hb6' := (H4.out.1 _).trans (hb6.mono (by simp only [sza]; omega))
      have hz6 := hb6.size
      simp only [sza] at hz6
      have hN1 := (hb6.block w4.heap.size (by simp only [sza]; omega)).trans (nw_heap _ _)
      have hS6 := HI.out.1.ss.below hb6'
      obtain ⟨hbw6, hOw6⟩ := (HI.out.1.below hb6').bel HN.out.2.1 HN.out.2.2.2.2
      have hnN : ¬ O w4.heap.size := fun q => by have := HI.out.1.ss.sc.lt _ q; omega
      have hnV : ∀ k, Value.ownBlock (.slice va bl1.length vc) = some k → ¬ O k := fun k e q => by
        have h1 := (row_base hr1 k e).1
        have h2 := HI.out.1.ss.sc.lt _ q
        simp only [sza] at h1
        omega
      have hdp := depth_sc hS6.sc
      rw [List.length_reverse] at hdp
      have H6 : Hid _ := And.intro hdp (And.intro (ST.start hS6) (And.intro hbw6 (And.intro hOw6 (And.intro hN1 (And.intro hr1 (And.intro hp1 (And.intro hs1 (And.intro hnN hnV))))))))
      have HL : Hid _ := And.intro HI.out.1.ss.nk HI.out.2.2
      clear hdp hbw6 hOw6 hN1 hr1 hp1 hs1 hnN hnV hS6 hb6 hb6' H4 HI
      go_wp2_with (first | (go_at_call 20; refine Calls.mono H6.out.1 ?_; rintro e w' ⟨rfl, hww⟩; have hww' := hww.symm; subst hww'))
      go_loopg [13] l1.length (fun m v13 wr2 => ∃ (j : Nat) (O' : Nat → Prop) (l' : Bs) (hx : List Hs), v13 = .int .i64 j ∧ j + m = l1.length ∧ ST O w6 P O' l' (hx ++ stk) wr2 ∧ unw (spc l') hx = spc l ∧ hx.length ≤ j)
      case atStart => exact ⟨0, O, l, [], rfl, by omega, H6.out.2.1, rfl, by simp⟩
      case round =>
        obtain ⟨j, O', l', hx, rfl, hjm, hst, hun, hxl⟩ := hrel
        by_cases hj : j < l1.length
        · obtain ⟨m, rfl⟩ : ∃ m, gk = m + 1 := ⟨gk - 1, by omega⟩
          rcases HA.out.2.1 with he | ⟨g, off, rfl, hgl, _, hcell⟩
          · rw [he] at hj; simp at hj
          obtain ⟨_, q1, q2, _, q4⟩ := hcell j hj
          obtain ⟨hbw, hOw⟩ := hst.bel H6.out.2.2.1 H6.out.2.2.2.1
          have hdc := HN.out.2.2.2.1 (l1[j]'hj) (List.getElem_mem hj)
          have hop := open_st hst H6.out.2.2.1 H6.out.2.2.2.1 q4 (by simp; omega) hdc 1
          have e1 := (hbw.cell (p := ⟨g, off + j * 4 + 1, none⟩) hgl).trans q1
          have e2 := (hbw.cell (p := ⟨g, off + j * 4 + 2, none⟩) hgl).trans q2
          generalize (l1[j]'hj) = D at *
          obtain ⟨op, nm, aa, ac', ats, dask⟩ := D
          dsimp only at *
          have HI2 : Hid _ := And.intro hop (And.intro q1 (And.intro q2 hun))
          clear hop hst q1 q2 q4 hcell hbw hOw hun
          go_wp2_with fail
          go_region_held3 (fun W => W.cell? ⟨g, off + j * 4 + 1, none⟩ = some (.string nm) ∧ W.cell? ⟨g, off + j * 4 + 2, none⟩ = some (.slice aa ats.length ac')) (go_keep) (first | (go_at_call 12; refine Calls.mono HI2.out.1 ?_; rintro e w' ⟨⟨v, rfl⟩, hbw', hst'⟩; have x1 := (hbw'.cell (p := ⟨g, off + j * 4 + 1, none⟩) hgl).trans HI2.out.2.1; have x2 := (hbw'.cell (p := ⟨g, off + j * 4 + 2, none⟩) hgl).trans HI2.out.2.2.1; have HS : Hid _ := hst'; clear hst'))
          go_wp2_with fail
          go_roundg m
          case measure => omega
          case rel =>
            obtain ⟨O2, l2, stk2, r1', r2', r3'⟩ := HS.out
            obtain ⟨hx', rfl, u1, u2⟩ := nxt_unw r2' HI2.out.2.2.2
            exact ⟨j + 1, O2, l2, hx', rfl, by omega, r1', u1, by omega⟩
        · obtain rfl : j = l1.length := by omega
          have hgk : gk = 0 := by omega
          subst hgk
          have HI2 : Hid _ := And.intro hst hun
          clear hst hun
          go_wp2_with fail
          go_loopg [87] hx.length (fun m v87 wr3 => ∃ (O2 : Nat → Prop) (l2 : Bs) (hy : List Hs), hy.length = m ∧ ST O w6 P O2 l2 (hy ++ stk) wr3 ∧ unw (spc l2) hy = spc l ∧ hy.length ≤ 60)
          case atStart => exact ⟨O', l', hx, rfl, HI2.out.1, HI2.out.2, by omega⟩
          case round =>
            obtain ⟨O2, l2, hy, hym, hst2, hun2, hyl⟩ := hrel
            have hdp2 := depth_sc hst2.ss.sc
            rw [List.length_reverse, List.length_append] at hdp2
            rcases hy with _ | ⟨h, hy⟩
            · have hre2 := resolve_sc hst2.ss.sc ask HA.out.2.2
              have hspc : spc l2 = spc l := hun2
              rw [res_eq hspc, HL.out.2] at hre2
              have hl2 : l2.length ≤ 1000000 := by
                have := (perm_of hst2.ss.nk HL.out.1 (fun s => by rw [hspc])).length_eq
                omega
              simp only [List.length_nil, Nat.zero_add] at hdp2
              have HJ : Hid _ := And.intro hst2 (And.intro hdp2 (And.intro hre2 hspc))
              clear hst2 hdp2 hre2 hspc hun2
              go_wp2_with (first | (go_at_call 20; refine Calls.mono HJ.out.2.1 ?_; rintro e w' ⟨rfl, hww⟩; have hww' := hww.symm; subst hww'))
              refine Calls.mono HJ.out.2.2.1 ?_
              rintro e w8 ⟨rfl, hb8⟩
              have hb9 : ∀ o, Below wr.heap.size wr (w8.alloc o) := fun o => hb8.alloc hb8.size o
              have hbi2 := fun o => binds_s sort_ok sort_nil (HJ.out.1.ss.sc.below (hb9 o)) hl2
              have hz8 := hb8.size
              have H8 : Hid _ := And.intro hb9 hbi2
              clear hb9 hbi2 hb8
              go_wp2_with fail
              refine Calls.mono (H8.out.2 _) ?_
              rintro e w10 ⟨v2, bl2, rfl, hp2, hs2, hr2, hb10⟩
              have hbb : bl2 = bl1 := binds_same HL.out.1 HJ.out.1.ss.nk HJ.out.2.2.2 H6.out.2.2.2.2.2.2.1 hp2 H6.out.2.2.2.2.2.2.2.1 hs2
              subst hbb
              obtain ⟨wa, wc, rfl⟩ := row_form hr2
              have hfr := HJ.out.1.fr
              have hzf := hfr.size
              have hz10 := hb10.size
              simp only [sza] at hz10
              have hwr10 := (H8.out.1 _).trans (hb10.mono (by simp only [sza]; omega))
              have hN1 := (hwr10.block _ (by omega)).trans ((hfr.block w4.heap.size (by omega) H6.out.2.2.2.2.2.2.2.2.1).trans H6.out.2.2.2.2.1)
              have hN2 := (hb10.block w8.heap.size (by simp only [sza]; omega)).trans (nw_heap _ _)
              have hR1 := row_below (row_fro H6.out.2.2.2.2.2.1 hfr H6.out.2.2.2.2.2.2.2.2.2) hwr10
              obtain ⟨n10, n11, _⟩ := fresh2 hN1
              obtain ⟨n20, n21, _⟩ := fresh2 hN2
              have hbf := (HJ.out.1.bel H6.out.2.2.1 H6.out.2.2.2.1).1
              have hbf10 := hbf.trans (hwr10.mono hbf.size)
              have hbn : bl2.length ≤ 1000000 := by
                have h1 := H6.out.2.2.2.2.2.2.1.length_eq
                have h2 := List.length_filter_le nonE l
                omega
              have HZ : Hid _ := And.intro hR1 (And.intro hr2 hbf10)
              clear hR1 hr2 hbf hbf10 hN1 hN2 hwr10 hfr hb10 hp2 hs2 H8 HJ H6 HL HI2 HN
              have hq68 := eq68
              go_wp2_with fail
              go_loopg [17] bl2.length (fun m v17 wr4 => ∃ i : Nat, v17 = .int .i64 i ∧ i + m = bl2.length ∧ Below w10.heap.size w10 wr4)
              case atStart => exact ⟨0, rfl, by omega, Below.refl _ _⟩
              case round =>
                obtain ⟨i, rfl, him4, hb11⟩ := hrel
                by_cases hi4 : i < bl2.length
                · obtain ⟨m, rfl⟩ : ∃ m, gk = m + 1 := ⟨gk - 1, by omega⟩
                  rcases HZ.out.1.2 with ⟨_, e0⟩ | ⟨g1, gc1, cur1, e1, _, hg1, _⟩
                  · omega
                  rcases HZ.out.2.1.2 with ⟨_, e0⟩ | ⟨g2, gc2, cur2, e2, _, hg2, _⟩
                  · omega
                  simp only [Value.slice.injEq] at e1 e2
                  obtain ⟨rfl, _, rfl⟩ := e1
                  obtain ⟨rfl, _, rfl⟩ := e2
                  obtain ⟨k10, k11⟩ := bc_cell HZ.out.1 i hi4
                  obtain ⟨k20, k21⟩ := bc_cell HZ.out.2.1 i hi4
                  have l10 := (hb11.cell (p := ⟨g1, i * 2, none⟩) (lt_of hg1)).trans k10
                  have l11 := (hb11.cell (p := ⟨g1, i * 2 + 1, none⟩) (lt_of hg1)).trans k11
                  have l20 := (hb11.cell (p := ⟨g2, i * 2, none⟩) (lt_of hg2)).trans k20
                  have l21 := (hb11.cell (p := ⟨g2, i * 2 + 1, none⟩) (lt_of hg2)).trans k21
                  generalize (bl2[i]'hi4) = B at *
                  obtain ⟨B1, B2⟩ := B
                  dsimp only at *
                  have HB : Hid _ := hb11
                  clear hb11 k10 k11 k20 k21 hg1 hg2
                  go_wp2_with fail
                  go_quiet (fail)
                  go_wp2_with fail
                  go_roundg m
                  case measure => omega
                  case rel => exact ⟨i + 1, rfl, by omega, HB.out.trans ((Below.drewN' _).mono HB.out.size)⟩
                · obtain rfl : i = bl2.length := by omega
                  go_wp2_with fail
                  go_ret
                  exact ⟨rfl, HZ.out.2.2.trans (hb11.mono HZ.out.2.2.size)⟩
            · simp only [List.length_cons] at hdp2 hym hyl
              have hcl := close_any hst2.ss (by simp; omega)
              have hgt : ((stk.length : Nat) : Int) < ((hy.length + 1 + stk.length : Nat) : Int) := by omega
              have HJ : Hid _ := And.intro hst2 (And.intro hdp2 (And.intro hcl hun2))
              clear hst2 hdp2 hcl hun2
              obtain ⟨m, rfl⟩ : ∃ m, gk = m + 1 := ⟨gk - 1, by omega⟩
              go_wp2_with (first | (go_at_call 20; refine Calls.mono HJ.out.2.1 ?_; rintro e w' ⟨rfl, hww⟩; have hww' := hww.symm; subst hww'))
              refine Calls.mono HJ.out.2.2.1 ?_
              rintro e w9 ⟨rfl, hf9, l9, hs9, he9⟩
              have HK : Hid _ := And.intro (HJ.out.1.step hf9 (fun k hk => .inl hk) hs9) (by have := HJ.out.2.2.2; rw [unw, ← he9] at this; exact this)
              clear hf9 hs9 he9
              go_wp2_with fail
              go_roundg m
              case measure => omega
              case rel => exact ⟨O2, l9, hy, by omega, HK.out.1, HK.out.2, by omega⟩
end Go.Proofs.Ytgidbmiahckleaa
