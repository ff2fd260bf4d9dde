/- Close: the innermost element ends. -/
import Derived.Test.YtgidbmiahckleaaNs9
namespace Go.Proofs.Ytgidbmiahckleaa
open Go.RowKit
set_option linter.unusedVariables false

theorem close_none {w : World} {P : Nat} {nv : Value} {a : Option Addr} {c : Nat} (hP : ScB w P nv (.slice a 0 c)) : Calls Try.prog 10 #[.pointer (some ⟨P, 0, none⟩)] w fun e w' => e = .returned (.bool false) ∧ w' = w := by
  have c1 : w.cell? ⟨P, 1, none⟩ = some (.slice a 0 c) := sc_cell (i := 1) hP
  go_enter Try.func10, Try.ntmps10
  go_wp2_with fail
  go_ret
  exact ⟨rfl, rfl⟩
theorem addr_add0 (B j : Nat) : (⟨B, 0, none⟩ : Addr).add j = ⟨B, j, none⟩ := by unfold Addr.add; split <;> simp_all
/-- Where Close stands. -/
structure CI (w : World) (P r : Nat) (hb : Option Nat) (nv hv : Value) (l : List (ByteArray × ByteArray)) (h dn lf : List (ByteArray × Option ByteArray)) (wr : World) : Prop where
  it : It wr r hb lf
  perm : (dn ++ lf).Perm h
  now : NowAt wr nv (back l dn)
  sc : ScB wr P nv hv
  fro : Fro (fun k => nv = .map (some k)) w wr
theorem NowAt.fro {O : Nat → Prop} {w w' : World} {v : Value} {l : List (ByteArray × ByteArray)} (h : NowAt w v l) (hf : Fro O w w') (hO : ∀ b, v = .map (some b) → ¬ O b) : NowAt w' v l := by
  rcases h with h | ⟨b, h1, h2⟩
  · exact .inl h
  · exact .inr ⟨b, h1, h2.fro hf (hO b h1)⟩
theorem ScB.fro {O : Nat → Prop} {w w' : World} {P : Nat} {nv hv : Value} (h : ScB w P nv hv) (hf : Fro O w w') (hO : ¬ O P) : ScB w' P nv hv := (hf.block P (lt_of h) hO).trans h
theorem HidAt.fro {O : Nat → Prop} {w w' : World} {v : Value} {l : List (ByteArray × Option ByteArray)} (h : HidAt w v l) (hf : Fro O w w') (hO : ∀ b, v = .map (some b) → ¬ O b) : HidAt w' v l := by
  rcases h with h | ⟨b, h1, h2⟩
  · exact .inl h
  · exact .inr ⟨b, h1, h2.fro hf (hO b h1)⟩
/-- An entry has come. -/
theorem CI.next {w wr : World} {P r : Nat} {hb : Option Nat} {nv hv : Value} {l : List (ByteArray × ByteArray)} {h dn lf : List (ByteArray × Option ByteArray)} (hc : CI w P r hb nv hv l h dn lf wr) (hr : w.heap.size ≤ r) (hnb : ∀ b, nv = .map (some b) → b < w.heap.size) (hP : P < w.heap.size) (ty : TypeId) :
    (lf = [] ∧ (Instr.next (.pointer (some ⟨r, 0, none⟩)) false ty).run Try.prog wr = .ok (.tuple #[.bool false]) wr) ∨
    ∃ p lf' W1, lf'.length + 1 = lf.length ∧ p ∈ h ∧ (Instr.next (.pointer (some ⟨r, 0, none⟩)) false ty).run Try.prog wr = .ok (.tuple #[.bool true, .string p.1, hv2 p.2]) W1 ∧ (Instr.entry (.pointer (some ⟨r, 0, none⟩))).run Try.prog W1 = .ok (.tuple #[.string p.1, hv2 p.2]) W1 ∧ It W1 r hb lf' ∧ ((dn ++ [p]) ++ lf').Perm h ∧ NowAt W1 nv (back l dn) ∧ ScB W1 P nv hv ∧ Fro (fun k => nv = .map (some k)) w W1 := by
  rcases hc.it.next ty with h1 | ⟨A, p, B, W1, rfl, h2, h3, h4, h5⟩
  · exact .inl h1
  · right
    have hp : ((dn ++ [p]) ++ (A ++ B)).Perm h := by
      refine List.Perm.trans ?_ hc.perm
      rw [List.append_assoc]
      refine List.Perm.append_left _ ?_
      show (p :: (A ++ B)).Perm (A ++ p :: B)
      exact List.perm_middle.symm
    refine ⟨p, A ++ B, W1, by simp; omega, hp.subset (by simp), h2, h3, h4, hp, hc.now.fro h5 (fun b e q => ?_), hc.sc.fro h5 (fun q => by omega), hc.fro.trans' h5 (fun i hi q => by omega)⟩
    have := hnb b e
    omega
theorem CI.mk2 {w W1 W2 W3 : World} {P r nb : Nat} {hb : Option Nat} {hv : Value} {l : List (ByteArray × ByteArray)} {h dn lf' : List (ByteArray × Option ByteArray)} (p : ByteArray × Option ByteArray) (q5 : It W1 r hb lf') (q6 : ((dn ++ [p]) ++ lf').Perm h) (q8 : ScB W1 P (.map (some nb)) hv) (q9 : Fro (fun k => Value.map (some nb) = .map (some k)) w W1) (hr : r ≠ nb) (hP : P ≠ nb) (hn : ∀ b, hb = some b → b ≠ nb)
    (f2 : Below W1.heap.size W1 W2) (g3 : W2.grownBy W3 (some nb)) (m3 : MapAt W3 nb (bnd (back l (dn ++ [p])))) : CI w P r hb (.map (some nb)) hv l h (dn ++ [p]) lf' W3 := by
  have f3 : Fro (fun k => k = nb) W1 W3 := (Fro.below f2).trans (Fro.grown g3 (fun k e => by simp at e; exact e.symm))
  refine ⟨q5.fro f3 hr hn, q6, .inr ⟨nb, rfl, m3⟩, q8.fro f3 hP, q9.trans' f3 (fun i hi q => by simp; exact q.symm)⟩
theorem CI.put {w W1 : World} {P r nb : Nat} {hb : Option Nat} {hv : Value} {l : List (ByteArray × ByteArray)} {h dn lf' : List (ByteArray × Option ByteArray)} (pk sp : ByteArray) (q5 : It W1 r hb lf') (q6 : ((dn ++ [(pk, some sp)]) ++ lf').Perm h) (q7 : NowAt W1 (.map (some nb)) (back l dn)) (q8 : ScB W1 P (.map (some nb)) hv) (q9 : Fro (fun k => Value.map (some nb) = .map (some k)) w W1) (hr : r ≠ nb) (hn : ∀ b, hb = some b → b ≠ nb) (o : Obj) :
    ∃ W3, (Instr.mapUpdate 78 (.map (some nb)) (.string pk) (.agg #[.string sp, .bool true])).run Try.prog (W1.alloc o).drew = .ok () W3 ∧ CI w P r hb (.map (some nb)) hv l h (dn ++ [(pk, some sp)]) lf' W3 := by
  have f2 : Below W1.heap.size W1 (W1.alloc o).drew := ((Below.refl _ _).alloc (Nat.le_refl _) o).drew
  rcases q7 with ⟨e, _⟩ | ⟨b, e, hm⟩
  · simp at e
  · simp at e
    subst e
    obtain ⟨W3, r3, m3, g3⟩ := upd_map (hm.below f2) pk (.agg #[.string sp, .bool true])
    rw [upd_bnd] at m3
    refine ⟨W3, r3, CI.mk2 (pk, some sp) q5 q6 q8 q9 hr (fun e => hm.ne q8 e.symm) hn f2 g3 ?_⟩
    unfold back
    rw [List.foldl_append]
    exact m3
theorem CI.del {w W1 : World} {P r nb : Nat} {hb : Option Nat} {hv : Value} {l : List (ByteArray × ByteArray)} {h dn lf' : List (ByteArray × Option ByteArray)} (pk : ByteArray) (q5 : It W1 r hb lf') (q6 : ((dn ++ [(pk, none)]) ++ lf').Perm h) (q7 : NowAt W1 (.map (some nb)) (back l dn)) (q8 : ScB W1 P (.map (some nb)) hv) (q9 : Fro (fun k => Value.map (some nb) = .map (some k)) w W1) (hr : r ≠ nb) (hn : ∀ b, hb = some b → b ≠ nb) (o : Obj) :
    ∃ W3, (Builtin.delete_ #[78, 9] 0 #[.map (some nb), .string pk]).run Try.prog (W1.alloc o) = .ok (.tuple #[]) W3 ∧ CI w P r hb (.map (some nb)) hv l h (dn ++ [(pk, none)]) lf' W3 := by
  have f2 : Below W1.heap.size W1 (W1.alloc o) := ((Below.refl _ _).alloc (Nat.le_refl _) o)
  rcases q7 with ⟨e, _⟩ | ⟨b, e, hm⟩
  · simp at e
  · simp at e
    subst e
    obtain ⟨W3, r3, m3, g3⟩ := del_map (hm.below f2) pk 0
    rw [del_bnd] at m3
    refine ⟨W3, r3, CI.mk2 (pk, none) q5 q6 q8 q9 hr (fun e => hm.ne q8 e.symm) hn f2 g3 ?_⟩
    unfold back
    rw [List.foldl_append]
    exact m3
theorem CI.done {w wr : World} {P r k g cap : Nat} {hb : Option Nat} {nv : Value} {l : List (ByteArray × ByteArray)} {h dn : List (ByteArray × Option ByteArray)} {cur : Array Value} {xs : List Value} (hc : CI w P r hb nv (.slice (some ⟨g, 0, none⟩) (k + 1) cap) l h dn [] wr) (hgw : wr.heap[g]? = some (.cells cur 78 (0, 0))) (hgn : nv ≠ .map (some g)) (hnc : k + 1 ≤ cap) (hcm : cap ≤ maxLen) (hcs : cur.size = cap * 1) (hl : xs.length = k) (htk : cur.toList.take ((k + 1) * 1) = xs ++ [.map hb]) (hgP : g ≠ P) :
    ∃ h' g' cap', h'.Perm h ∧ ScB ((wr.setCell ⟨g, k, none⟩ (.map none)).setCell ⟨P, 1, none⟩ (.slice (some ⟨g, 0, none⟩) k cap)) P nv (.slice (some ⟨g', 0, none⟩) k cap') ∧ (Value.slice (some ⟨g, 0, none⟩) (k + 1) cap).ownBlock = some g' ∧ NowAt ((wr.setCell ⟨g, k, none⟩ (.map none)).setCell ⟨P, 1, none⟩ (.slice (some ⟨g, 0, none⟩) k cap)) nv (back l h') ∧ ((wr.setCell ⟨g, k, none⟩ (.map none)).setCell ⟨P, 1, none⟩ (.slice (some ⟨g, 0, none⟩) k cap)).ownsRow 0 78 1 (.slice (some ⟨g', 0, none⟩) k cap') k xs ∧ Fro (fun j => j = P ∨ nv = .map (some j) ∨ (Value.slice (some ⟨g, 0, none⟩) (k + 1) cap).ownBlock = some j) w ((wr.setCell ⟨g, k, none⟩ (.map none)).setCell ⟨P, 1, none⟩ (.slice (some ⟨g, 0, none⟩) k cap)) := by
  obtain ⟨g1, t1⟩ := setC (i := k) (.map none) hgw
  have s1 : ScB (wr.setCell ⟨g, k, none⟩ (.map none)) P nv (.slice (some ⟨g, 0, none⟩) (k + 1) cap) := grown_at g1 hc.sc hgP
  obtain ⟨g2, s2⟩ := setP1 (.slice (some ⟨g, 0, none⟩) k cap) s1
  have t2 := grown_at g2 t1 (fun e => hgP e.symm)
  have f : Fro (fun j => j = P ∨ (Value.slice (some ⟨g, 0, none⟩) (k + 1) cap).ownBlock = some j) wr ((wr.setCell ⟨g, k, none⟩ (.map none)).setCell ⟨P, 1, none⟩ (.slice (some ⟨g, 0, none⟩) k cap)) := (Fro.grown g1 (fun j e => .inr (by simpa [Value.ownBlock] using e))).trans (Fro.grown g2 (fun j e => .inl (by simp at e; exact e.symm)))
  refine ⟨dn, g, cap, by simpa using hc.perm, s2, rfl, hc.now.fro f (fun b e q => ?_), ⟨by omega, .inr ⟨g, cap, _, rfl, Nat.zero_le _, t2, by omega, hcm, by simp [hcs], ?_⟩⟩, (hc.fro.mono (fun i _ q => .inr (.inl q))).trans (f.mono (fun i _ q => q.imp id .inr))⟩
  · rcases q with q | q
    · subst q
      rcases hc.now with ⟨e', _⟩ | ⟨b', e', hm⟩
      · rw [e'] at e; simp at e
      · rw [e'] at e; simp at e; subst e; exact hm.ne hc.sc rfl
    · simp [Value.ownBlock] at q
      subst q
      exact hgn e
  · rw [Array.toList_setIfInBounds]
    rw [Nat.mul_one, List.take_set_of_le (Nat.le_refl _)]
    have e : cur.toList.take k = (cur.toList.take ((k + 1) * 1)).take k := by
      rw [List.take_take]
      congr 1
      omega
    rw [e, htk, List.take_append_of_le_length (by omega), List.take_of_length_le (by omega)]
set_option maxRecDepth 100000 in
set_option maxHeartbeats 1600000 in
theorem close_t {w : World} {P k : Nat} {nv hv v4 : Value} {l : List (ByteArray × ByteArray)} {h : List (ByteArray × Option ByteArray)} {xs : List Value} (hP : ScB w P nv hv) (hN : NowAt w nv l) (hrow : w.ownsRow 0 78 1 hv (k + 1) (xs ++ [v4])) (hH : HidAt w v4 h) (hne : ∀ b, v4 = .map (some b) → nv ≠ .map (some b)) (hnn : h ≠ [] → ∃ nb, nv = .map (some nb)) (hk : k ≤ 1000000) :
    Calls Try.prog 10 #[.pointer (some ⟨P, 0, none⟩)] w fun e w' => e = .returned (.bool true) ∧ ∃ h' g cap, h'.Perm h ∧ ScB w' P nv (.slice (some ⟨g, 0, none⟩) k cap) ∧ hv.ownBlock = some g ∧ NowAt w' nv (back l h') ∧ w'.ownsRow 0 78 1 (.slice (some ⟨g, 0, none⟩) k cap) k xs ∧ Fro (fun j => j = P ∨ nv = .map (some j) ∨ hv.ownBlock = some j) w w' := by
  have hrow' := hrow
  rcases hrow with ⟨hl, ⟨_, h0⟩ | ⟨g, cap, cur, rfl, _, hg, hnc, hcm, hcs, htk⟩⟩
  · omega
  unfold maxLen at hcm
  have hc1 : w.cell? ⟨P, 1, none⟩ = some (.slice (some ⟨g, 0, none⟩) (k + 1) cap) := sc_cell (i := 1) hP
  have hxl : xs.length = k := by simp at hl; omega
  have hck : w.cell? ⟨g, k, none⟩ = some v4 := by
    have := hrow'.cells (g := g) rfl k v4 (by simp [hxl])
    rwa [addr_add0] at this
  obtain ⟨X, hb, hrg, rfl, hit⟩ := It.start hH
  have hPl := lt_of hP
  have hnb : ∀ b, nv = .map (some b) → b < w.heap.size := by
    intro b e
    rcases hN with ⟨q, _⟩ | ⟨b', q, hm⟩
    · rw [q] at e; simp at e
    · rw [q] at e; simp at e; subst e; exact hm.lt
  have hbel : Below w.heap.size w (w.alloc X) := (Below.refl _ _).alloc (Nat.le_refl _) _
  have hci : CI w P w.heap.size hb nv (.slice (some ⟨g, 0, none⟩) (k + 1) cap) l h [] h (w.alloc X) := ⟨hit, List.Perm.refl _, hN.below hbel, hP.below hbel, Fro.below hbel⟩
  have HH : Hid _ := And.intro hci (And.intro hP (And.intro hrow' (And.intro hnb (And.intro hH (And.intro hne (And.intro hnn hN))))))
  clear hci hP hrow' hH hne hnn hit hbel hN hnb
  go_enter Try.func10, Try.ntmps10
  go_wp2_with fail
  go_loopg [4] h.length (fun m v4 wr => ∃ dn lf, lf.length = m ∧ CI w P w.heap.size hb nv (.slice (some ⟨g, 0, none⟩) (k + 1) cap) l h dn lf wr)
  case atStart => exact ⟨[], h, rfl, HH.out.1⟩
  case round =>
    obtain ⟨dn, lf, hm, hci⟩ := hrel
    rcases hci.next (Nat.le_refl _) HH.out.2.2.2.1 hPl 0 with ⟨rfl, hx⟩ | ⟨p, lf', W1, q1, q2, q3, q4, q5, q6, q7, q8, q9⟩
    · have hgn : nv ≠ .map (some g) := fun q => by
        rcases HH.out.2.2.2.2.2.2.2 with ⟨e, _⟩ | ⟨b, e, hmm⟩
        · rw [e] at q; simp at q
        · rw [e] at q; simp at q; subst q; exact hmm.ne hg rfl
      have hg2 := (hci.fro.block g (lt_of hg) hgn).trans hg
      have y0 : wr.cell? ⟨g, k, none⟩ = some (.map hb) := (World.cell?_of_block (hci.fro.block g (lt_of hg) hgn)).trans hck
      have y1 : wr.frozen? ⟨g, k, none⟩ = false := by simp [World.frozen?, hg2]
      have y2 : wr.cell? ⟨P, 1, none⟩ = some (.slice (some ⟨g, 0, none⟩) (k + 1) cap) := sc_cell (i := 1) hci.sc
      have y3 : wr.frozen? ⟨P, 1, none⟩ = false := (fresh2 hci.sc).2.2.2
      have hgP : g ≠ P := fun q => by
        rw [q] at hg
        have := HH.out.2.1.symm.trans hg
        simp at this
      have hPg : P ≠ g := fun q => hgP q.symm
      have HC : Hid _ := And.intro hci (And.intro hg2 hgn)
      clear hci hgn hg2
      go_wp2_with fail
      go_ret
      exact ⟨rfl, CI.done HC.out.1 HC.out.2.1 HC.out.2.2 hnc hcm hcs hxl htk hgP⟩
    · obtain ⟨pk, po⟩ := p
      have HC : Hid _ := And.intro q5 (And.intro q6 (And.intro q7 (And.intro q8 q9)))
      obtain ⟨nb, rfl⟩ := HH.out.2.2.2.2.2.2.1 (fun e => by rw [e] at q2; simp at q2)
      have y2 : ∀ o, (W1.alloc o).cell? ⟨P, 0, none⟩ = some (.map (some nb)) := fun o => sc_cell (i := 0) (q8.below ((Below.refl _ _).alloc (Nat.le_refl _) o))
      obtain ⟨m, rfl⟩ : ∃ m, gk = m + 1 := ⟨gk - 1, by omega⟩
      clear q5 q6 q7 q8 q9 hci
      cases po with
      | none =>
        obtain ⟨W3, r3, hc3⟩ := CI.del pk HC.out.1 HC.out.2.1 HC.out.2.2.1 HC.out.2.2.2.1 HC.out.2.2.2.2 (fun e => by have := HH.out.2.2.2.1 nb rfl; omega) (fun b e q => HH.out.2.2.2.2.2.1 b (by rw [e]) (by rw [q])) (.cells #[.string ⟨#[]⟩, .bool false] 83)
        dsimp only [hv2] at *
        go_wp2_with fail
        go_roundg m
        case measure => omega
        case rel => exact ⟨_, lf', by omega, hc3⟩
      | some sp =>
        obtain ⟨W3, r3, hc3⟩ := CI.put pk sp HC.out.1 HC.out.2.1 HC.out.2.2.1 HC.out.2.2.2.1 HC.out.2.2.2.2 (fun e => by have := HH.out.2.2.2.1 nb rfl; omega) (fun b e q => HH.out.2.2.2.2.2.1 b (by rw [e]) (by rw [q])) (.cells #[.string sp, .bool true] 83)
        dsimp only [hv2] at *
        have y3 := y2 (.cells #[.string sp, .bool true] 83)
        have z3 := (fresh2 (nw_heap W1 (.cells #[.string sp, .bool true] 83))).1
        have z4 := (fresh2 (nw_heap W1 (.cells #[.string sp, .bool true] 83))).2.1
        go_upto_region 8 with fail
        generalize (W1.alloc (.cells #[.string sp, .bool true] 83)) = W2 at *
        go_region
        go_wp2_with fail
        go_roundg m
        case measure => omega
        case rel => exact ⟨_, lf', by omega, hc3⟩
end Go.Proofs.Ytgidbmiahckleaa
