/- The second telling's scope: Space, Close. -/
import Derived.Test.YtgidbmiahckleaaFew
namespace Go.Proofs.Ytgidbmiahckleaa
open Go.RowKit
set_option linter.unusedVariables false

/-- A row of bindings in memory. -/
def RowB (w : World) (v : Value) (b : Bs) : Prop := ∃ a cap, v = .slice a b.length cap ∧ b.length ≤ cap ∧ cap ≤ maxLen ∧ (b = [] ∨ ∃ g o, a = some ⟨g, o, none⟩ ∧ g < w.heap.size ∧ ∀ i (hi : i < b.length), w.cell? ⟨g, o + i * 2, none⟩ = some (.string (b[i]'hi).1) ∧ w.cell? ⟨g, o + i * 2 + 1, none⟩ = some (.string (b[i]'hi).2))
/-- Rows of rows. -/
def RowL (w : World) (v : Value) (L : List Bs) : Prop := ∃ a cap, v = .slice a L.length cap ∧ L.length ≤ cap ∧ cap ≤ maxLen ∧ (L = [] ∨ ∃ g o, a = some ⟨g, o, none⟩ ∧ g < w.heap.size ∧ ∀ i (hi : i < L.length), ∃ u, w.cell? ⟨g, o + i, none⟩ = some u ∧ RowB w u (L[i]'hi))
/-- The second telling's scope in memory. -/
def RS (w : World) (Q : Nat) (L : List Bs) : Prop := ∃ v, w.heap[Q]? = some (.cells #[v] 30 (0, 0)) ∧ RowL w v L
/-- What it tells. -/
def spR (L : List Bs) (s : ByteArray) : Option ByteArray := L.reverse.findSome? fun b => lkp b s
def spaceR (L : List Bs) (s : ByteArray) : ByteArray × Bool := if s = xmlB then (XML, true) else match spR L s with
  | some v => (v, true)
  | none => (⟨#[]⟩, s.toList.isEmpty)
theorem take_succ_rev {α : Type} (L : List α) (m : Nat) (h : m < L.length) : (L.take (m + 1)).reverse = L[m]'h :: (L.take m).reverse := by
  rw [List.take_add_one, List.getElem?_eq_getElem h, List.reverse_append]
  rfl
theorem lkp_drop {b : Bs} {s : ByteArray} {k : Nat} (hk : k < b.length) : lkp (b.drop k) s = if s = (b[k]'hk).1 then some (b[k]'hk).2 else lkp (b.drop (k + 1)) s := by
  rw [List.drop_eq_getElem_cons hk, lkp_cons]
set_option maxRecDepth 100000 in
set_option maxHeartbeats 1600000 in
theorem space_r {w : World} {Q : Nat} {L : List Bs} (hR : RS w Q L) (s : ByteArray) :
    Calls Try.prog 19 #[.pointer (some ⟨Q, 0, none⟩), .string s] w fun e w' => e = .returned (.tuple #[.string (spaceR L s).1, .bool (spaceR L s).2]) ∧ w' = w := by
  obtain ⟨v, hQ, a, cap, rfl, hlc, hcm, hL⟩ := hR
  have c0 : w.cell? ⟨Q, 0, none⟩ = some (.slice a L.length cap) := by simp only [World.cell?, hQ]; rfl
  have HL : Hid _ := hL
  clear hL hQ
  unfold maxLen at hcm
  have hRd : spaceR L s = if s = xmlB then (XML, true) else match spR L s with
    | some v => (v, true)
    | none => (⟨#[]⟩, s.toList.isEmpty) := rfl
  generalize spaceR L s = R at *
  have HR : Hid _ := hRd
  clear hRd
  by_cases hx : s = xmlB
  · have hRx : R = (XML, true) := by rw [HR.out, if_pos hx]
    subst hRx
    subst hx
    unfold xmlB
    clear HR
    go_enter Try.func19, Try.ntmps19
    go_wp2_with fail
    go_ret2
    exact ⟨rfl, rfl⟩
  have hx1 : ¬ s.toList = (⟨#[120, 109, 108]⟩ : ByteArray).toList := fun q => hx ((tl_eq _ _).1 q)
  have hx2 : ¬ s.toList = [120, 109, 108] := fun q => hx1 (by rw [q, tl_mk])
  have hx3 : (s.toList == [120, 109, 108]) = false := by simpa using hx2
  have HX : Hid _ := hx
  clear hx hx1
  go_enter Try.func19, Try.ntmps19
  go_wp2_with fail
  go_loopg [6] L.length (fun m v6 wr => m ≤ L.length ∧ v6 = .int .i64 ((m : Int) - 1) ∧ wr = w ∧ Hid (spR L s = (L.take m).reverse.findSome? fun b => lkp b s))
  case atStart => exact ⟨Nat.le_refl _, rfl, rfl, by show _ = _; rw [List.take_length]; rfl⟩
  case round =>
    obtain ⟨hm, rfl, hwr, hsp⟩ := hrel
    subst hwr
    rcases gk with _ | m
    · have e : spR L s = none := by rw [hsp.out]; rfl
      have HE : Hid _ := e
      clear e hsp
      by_cases hse : s.toList = []
      · have hs1 : (s.toList == []) = true := by simp [hse]
        have hs2 : s.toList.isEmpty = true := by simp [hse]
        go_wp2_with fail
        go_ret2
        exact ⟨by rw [HR.out, if_neg HX.out, HE.out]; simp [hs2], rfl⟩
      · have hs1 : (s.toList == []) = false := by simpa using hse
        have hs2 : s.toList.isEmpty = false := by simpa using hse
        go_wp2_with fail
        go_ret2
        exact ⟨by rw [HR.out, if_neg HX.out, HE.out]; simp [hs2], rfl⟩
    · have hmL : m < L.length := by omega
      have hev : ((m + 1 : Nat) : Int) - 1 = (m : Int) := by omega
      rw [hev]
      rcases HL.out with he | ⟨g, o, rfl, hg, hcl⟩
      · rw [he] at hmL; simp at hmL
      obtain ⟨u, hu, hB⟩ := hcl m hmL
      have hst := hsp.out
      rw [take_succ_rev L m hmL, List.findSome?_cons] at hst
      generalize (L[m]'hmL) = b at *
      obtain ⟨ba, bc', rfl, hblc, hbcm, hBB⟩ := hB
      have HB : Hid _ := And.intro hBB hst
      clear hBB hst hsp hcl hev
      unfold maxLen at hbcm
      go_wp2_with fail
      go_loopg [7] b.length (fun m2 v7 wr2 => ∃ k : Nat, v7 = .int .i64 k ∧ k + m2 = b.length ∧ wr2 = wr ∧ Hid (lkp b s = lkp (b.drop k) s))
      case atStart => exact ⟨0, rfl, by omega, rfl, rfl⟩
      case round =>
        obtain ⟨k, rfl, hk2, hw2, hlk⟩ := hrel
        subst hw2
        by_cases hk : k < b.length
        · obtain ⟨m2, rfl⟩ : ∃ m2, gk = m2 + 1 := ⟨gk - 1, by omega⟩
          rcases HB.out.1 with he | ⟨bg, bo, rfl, hbg, hbc⟩
          · rw [he] at hk; simp at hk
          obtain ⟨p0, p1⟩ := hbc k hk
          have hd := lkp_drop (s := s) hk
          generalize (b[k]'hk) = B at *
          obtain ⟨B1, B2⟩ := B
          dsimp only at *
          have HD : Hid _ := And.intro hd hlk
          clear hd hlk hbc
          by_cases hsB : s = B1
          · subst hsB
            go_wp2_with fail
            go_ret2
            have e : spR L s = some B2 := by
              rw [HB.out.2]
              rw [HD.out.2.out, HD.out.1]
              simp
            exact ⟨by rw [HR.out, if_neg HX.out, e]; rfl, rfl⟩
          · have hne1 : ¬ B1.toList = s.toList := fun q => hsB ((tl_eq _ _).1 q).symm
            have hne2 : (B1.toList == s.toList) = false := by simpa using hne1
            have HNE : Hid _ := hsB
            clear hsB
            go_wp2_with fail
            go_roundg m2
            case measure => omega
            case rel => exact ⟨k + 1, rfl, by omega, rfl, by show _ = _; rw [HD.out.2.out, HD.out.1, if_neg HNE.out]⟩
        · obtain rfl : k = b.length := by omega
          go_wp2_with fail
          go_roundg m
          case measure => omega
          case rel =>
            refine ⟨by omega, rfl, rfl, ?_⟩
            show _ = _
            rw [HB.out.2]
            rw [hlk.out, List.drop_length]
            rfl
theorem RowB.fro {O : Nat → Prop} {w w' : World} {v : Value} {b : Bs} (h : RowB w v b) (hf : Fro O w w') (hO : ∀ k, v.ownBlock = some k → ¬ O k) : RowB w' v b := by
  obtain ⟨a, cap, rfl, h1, h2, h3⟩ := h
  refine ⟨a, cap, rfl, h1, h2, ?_⟩
  rcases h3 with h3 | ⟨g, o, rfl, h4, h5⟩
  · exact .inl h3
  · refine .inr ⟨g, o, rfl, Nat.lt_of_lt_of_le h4 hf.size, fun i hi => ?_⟩
    obtain ⟨q0, q1⟩ := h5 i hi
    exact ⟨(hf.cell h4 (hO g rfl)).trans q0, (hf.cell h4 (hO g rfl)).trans q1⟩
theorem close_r0 {w : World} {Q : Nat} (hR : RS w Q []) : Calls Try.prog 11 #[.pointer (some ⟨Q, 0, none⟩)] w fun e w' => e = .returned (.bool false) ∧ w' = w := by
  obtain ⟨v, hQ, a, cap, rfl, hlc, hcm, hL⟩ := hR
  have c0 : w.cell? ⟨Q, 0, none⟩ = some (.slice a 0 cap) := by simp only [World.cell?, hQ]; rfl
  go_enter Try.func11, Try.ntmps11
  go_wp2_with fail
  go_ret
  exact ⟨rfl, rfl⟩
set_option maxRecDepth 100000 in
theorem close_r {w : World} {Q n cap : Nat} {a : Option Addr} (hQ : w.heap[Q]? = some (.cells #[.slice a (n + 1) cap] 30 (0, 0))) (hn : n + 1 ≤ cap) (hcm : cap ≤ maxLen) : Calls Try.prog 11 #[.pointer (some ⟨Q, 0, none⟩)] w fun e w' => e = .returned (.bool true) ∧ w'.heap[Q]? = some (.cells #[.slice a n cap] 30 (0, 0)) ∧ Fro (fun k => k = Q) w w' := by
  unfold maxLen at hcm
  have c0 : w.cell? ⟨Q, 0, none⟩ = some (.slice a (n + 1) cap) := by simp only [World.cell?, hQ]; rfl
  have f0 : w.frozen? ⟨Q, 0, none⟩ = false := by simp [World.frozen?, hQ]
  have HQ : Hid _ := hQ
  clear hQ
  go_enter Try.func11, Try.ntmps11
  go_upto_region 3 with fail
  go_region
  go_wp2_with fail
  go_ret
  obtain ⟨g1, t1⟩ := setC (i := 0) (.slice a n cap) HQ.out
  exact ⟨rfl, t1, (Fro.grown g1 (fun k e => by simp at e; exact e.symm)).trans (Fro.drewN _ 1)⟩
end Go.Proofs.Ytgidbmiahckleaa
