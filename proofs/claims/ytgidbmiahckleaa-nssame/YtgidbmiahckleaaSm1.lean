/- Two prefixes of one space: what Open answers. -/
import Derived.Test.YtgidbmiahckleaaSm0
namespace Go.Proofs.Ytgidbmiahckleaa
open Go.RowKit
set_option linter.unusedVariables false
set_option linter.unusedSimpArgs false
set_option linter.unnecessarySimpa false

theorem may_no {nm val : ByteArray} (h : (bindS nm).2 = false) : mayS nm val = true := by
  unfold mayS mayC
  rw [if_pos h]
theorem may_pre {nm p val : ByteArray} (h : bindS nm = (p, true)) (h1 : ncB (bl p) = true) (h2 : p.toList ≠ xnL) (h3 : p.toList ≠ xmL) (h4 : nm.toList ≠ xnL) (v1 : ¬ val.toList = XML_L) (v2 : ¬ val.toList = XNS_L) (v3 : ¬ val.toList = []) : mayS nm val = true := by
  unfold mayS mayC
  rw [h]
  have e1 : (nm.toList == xnL) = false := by simpa using h4
  have e2 : (p.toList == xnL) = false := by simpa using h2
  have e3 : (p.toList == xmL) = false := by simpa using h3
  have e4 : (val.toList == XML_L) = false := by simpa using v1
  have e5 : (val.toList == XNS_L) = false := by simpa using v2
  have e6 : (val.toList == []) = false := by simpa using v3
  simp only [h1, e1, e2, e3, e4, e5, e6]
  rfl
theorem may_def {val : ByteArray} (v1 : ¬ val.toList = XML_L) (v2 : ¬ val.toList = XNS_L) : mayS ⟨#[120, 109, 108, 110, 115]⟩ val = true := by
  unfold mayS mayC
  obtain ⟨h, e0, h1, h2, h3⟩ := f_bd
  rw [h]
  have e1 : ((⟨#[120, 109, 108, 110, 115]⟩ : ByteArray).toList == xnL) = true := by rw [e0]; rfl
  have e2 : (eB.toList == xnL) = false := by simpa using h2
  have e3 : (eB.toList == xmL) = false := by simpa using h3
  have e4 : (val.toList == XML_L) = false := by simpa using v1
  have e5 : (val.toList == XNS_L) = false := by simpa using v2
  simp only [e1, e2, e3, e4, e5]
  rfl
section
variable (i j k : Fin 26) (sp : ByteArray)
def at1 : Ats := [(⟨#[120, 109, 108, 110, 115, 58]⟩ ++ nn2 112 i, sp, 0), (⟨#[120, 109, 108, 110, 115, 58]⟩ ++ nn2 113 j, sp, 5), (⟨#[120, 109, 108, 110, 115]⟩, sp, 9), (nn2 112 i ++ ⟨#[58, 120]⟩, ⟨#[49]⟩, 11), (xB, ⟨#[50]⟩, 12)]
def at3 : Ats := [(nn2 112 i ++ ⟨#[58, 120]⟩, ⟨#[49]⟩, 11), (nn2 113 j ++ ⟨#[58, 120]⟩, ⟨#[50]⟩, 12)]
def l1 : Bs := [(nn2 112 i, sp), (nn2 113 j, sp), (eB, sp)]
def h1 : Hs := [(nn2 112 i, none), (nn2 113 j, none), (eB, none)]
theorem b1 : binds [] (ps (at1 i j sp)) = (l1 i j sp, h1 i j) := by
  obtain ⟨n1, n2, n3, n4, n5, n6⟩ := f_ne i j
  have bp := (f_bp i).1
  have bq := (f_bq j).1
  have bd := f_bd.1
  have bx := (f_px i).2.2.1
  have b0 := f_x.2.2.1
  have x1 := (f_bp i).2.2.1
  have x2 := (f_bq j).2.2.1
  have x3 := f_bd.2.2.1
  unfold binds ps at1 l1 h1
  simp [bstep, has, setB, spc, bp, bq, bd, bx, b0, n1, n2, n3, n4, n5, n6, x1, x2, x3]
theorem b3 : binds (l1 i j sp) (ps (at3 i j)) = (l1 i j sp, []) := by
  have bx := (f_px i).2.2.1
  have by' := (f_qx j).2.2.1
  unfold binds ps at3
  simp [bstep, bx, by']
theorem bself (s : ByteArray) : (s == s) = true := (Go.MapKept.bytes_beq s s).2 rfl
theorem s_p : spaceS (l1 i j sp) (nn2 112 i) = (sp, true) := by
  have x1 := (f_bp i).2.2.1
  have e : spc (l1 i j sp) (nn2 112 i) = some sp := by simp [spc, l1, List.find?_cons, bself]
  unfold spaceS
  rw [if_neg x1, e]
theorem s_q : spaceS (l1 i j sp) (nn2 113 j) = (sp, true) := by
  have x1 := (f_bq j).2.2.1
  obtain ⟨n1, n2, n3, n4, n5, n6⟩ := f_ne i j
  have e : spc (l1 i j sp) (nn2 113 j) = some sp := by simp [spc, l1, List.find?_cons, bself, n2]
  unfold spaceS
  rw [if_neg x1, e]
theorem s_e : spaceS (l1 i j sp) eB = (sp, true) := by
  have x1 := f_bd.2.2.1
  obtain ⟨n1, n2, n3, n4, n5, n6⟩ := f_ne i j
  have e : spc (l1 i j sp) eB = some sp := by simp [spc, l1, List.find?_cons, bself, n4, n6]
  unfold spaceS
  rw [if_neg x1, e]
theorem e_pl : eltS (l1 i j sp) (nn2 112 i ++ ⟨#[58]⟩ ++ nn2 108 k) = (sp, nn2 108 k, 0) := by
  obtain ⟨q1, q2⟩ := f_qpl i k
  have x1 := (f_bp i).2.2.1
  unfold eltS resS
  rw [q2, q1]
  simp [s_p]
theorem e_l : eltS (l1 i j sp) (nn2 108 k) = (sp, nn2 108 k, 0) := by
  obtain ⟨q1, q2⟩ := f_l k
  obtain ⟨n1, n2, n3, n4, n5, n6⟩ := f_ne i j
  have x3 := f_bd.2.2.1
  unfold eltS resS
  rw [q2, q1]
  simp [s_e]
theorem a_px : attS (l1 i j sp) (nn2 112 i ++ ⟨#[58, 120]⟩) = (sp, xB, 0) := by
  obtain ⟨q1, q2, _, q4⟩ := f_px i
  have x1 := (f_bp i).2.2.1
  unfold attS eltS resS
  rw [if_pos q4, q2, q1]
  simp [s_p]
theorem a_qx : attS (l1 i j sp) (nn2 113 j ++ ⟨#[58, 120]⟩) = (sp, xB, 0) := by
  obtain ⟨q1, q2, _, q4⟩ := f_qx j
  have x1 := (f_bq j).2.2.1
  obtain ⟨n1, n2, n3, n4, n5, n6⟩ := f_ne i j
  unfold attS eltS resS
  rw [if_pos q4, q2, q1]
  simp [s_q]
theorem a_x : attS (l1 i j sp) xB = (eB, xB, 0) := by
  obtain ⟨q1, q2, _, q4⟩ := f_x
  have x3 := f_bd.2.2.1
  obtain ⟨n1, n2, n3, n4, n5, n6⟩ := f_ne i j
  unfold attS eltS resS
  rw [q4, q2, q1]
  simp [s_e]
theorem r_ql : resS (l1 i j sp) (nn2 113 j ++ ⟨#[58]⟩ ++ nn2 108 k) = (sp, nn2 108 k, 0) := by
  have q1 := f_qql j k
  have x1 := (f_bq j).2.2.1
  obtain ⟨n1, n2, n3, n4, n5, n6⟩ := f_ne i j
  unfold resS
  rw [q1]
  simp [s_q]
theorem o1 (v1 : ¬ sp.toList = XML_L) (v2 : ¬ sp.toList = XNS_L) (v3 : ¬ sp.toList = []) : opS [] (nn2 112 i ++ ⟨#[58]⟩ ++ nn2 108 k) 0 (at1 i j sp) = .ok ((sp, nn2 108 k), [((sp, xB), ⟨#[49]⟩, 11), ((eB, xB), ⟨#[50]⟩, 12)]) := by
  have m1 := may_pre (f_bp i).1 (f_bp i).2.1 (f_bp i).2.2.2.1 (f_bp i).2.2.2.2.1 (f_bp i).2.2.2.2.2 v1 v2 v3
  have m2 := may_pre (f_bq j).1 (f_bq j).2.1 (f_bq j).2.2.2.1 (f_bq j).2.2.2.2.1 (f_bq j).2.2.2.2.2 v1 v2 v3
  have m3 := may_def v1 v2
  have m4 : mayS (nn2 112 i ++ ⟨#[58, 120]⟩) ⟨#[49]⟩ = true := may_no (by rw [(f_px i).2.2.1])
  have m5 : mayS xB ⟨#[50]⟩ = true := may_no (by rw [f_x.2.2.1])
  unfold opS
  have hn : (at1 i j sp).find? bad = none := by
    unfold at1
    simp [bad, m1, m2, m3, m4, m5]
  rw [hn, b1]
  dsimp only
  unfold tagS
  rw [e_pl]
  have hne : sp.toList ≠ eB.toList := fun q => v3 (by rw [q, tl_mk])
  have hne' : eB.toList ≠ sp.toList := fun q => hne q.symm
  have ht : tgo (l1 i j sp) (at1 i j sp) [] = .ok [((sp, xB), ⟨#[49]⟩, 11), ((eB, xB), ⟨#[50]⟩, 12)] := by
    unfold at1
    simp only [tgo, (f_bp i).1, (f_bq j).1, f_bd.1, (f_px i).2.2.1, f_x.2.2.1, a_px, a_x]
    simp [hasN, hne, hne']
    exact fun q => absurd q v3
  rw [ht]
  simp
theorem o2 : opS (l1 i j sp) (nn2 108 k) 0 [] = .ok ((sp, nn2 108 k), []) := by
  unfold opS
  simp [tagS, tgo, ps, binds, e_l]
theorem o3 : opS (l1 i j sp) (nn2 108 k) 0 (at3 i j) = .error (12, 5) := by
  have m4 : mayS (nn2 112 i ++ ⟨#[58, 120]⟩) ⟨#[49]⟩ = true := may_no (by rw [(f_px i).2.2.1])
  have m5 : mayS (nn2 113 j ++ ⟨#[58, 120]⟩) ⟨#[50]⟩ = true := may_no (by rw [(f_qx j).2.2.1])
  unfold opS
  have hn : (at3 i j).find? bad = none := by
    unfold at3
    simp [bad, m4, m5]
  rw [hn, b3]
  dsimp only
  unfold tagS
  rw [e_l]
  have ht : tgo (l1 i j sp) (at3 i j) [] = .error (12, 5) := by
    unfold at3
    simp only [tgo, (f_px i).2.2.1, (f_qx j).2.2.1, a_px, a_qx]
    simp [hasN]
  rw [ht]
  simp
end
def att1 (p q sp : ByteArray) : Ats := [(⟨#[120, 109, 108, 110, 115, 58]⟩ ++ p, sp, 0), (⟨#[120, 109, 108, 110, 115, 58]⟩ ++ q, sp, 5), (⟨#[120, 109, 108, 110, 115]⟩, sp, 9), (p ++ ⟨#[58, 120]⟩, ⟨#[49]⟩, 11), (⟨#[120]⟩, ⟨#[50]⟩, 12)]
def att3 (p q : ByteArray) : Ats := [(p ++ ⟨#[58, 120]⟩, ⟨#[49]⟩, 11), (q ++ ⟨#[58, 120]⟩, ⟨#[50]⟩, 12)]
def L1 (p q sp : ByteArray) : Bs := [(p, sp), (q, sp), (eB, sp)]
def H1 (p q : ByteArray) : Hs := [(p, none), (q, none), (eB, none)]
/-- What is said of two prefixes, a local part and a space. -/
structure SF (p q l sp : ByteArray) : Prop where
  zp : p.size = 2
  zq : q.size = 2
  zl : l.size = 2
  o1 : opS [] (p ++ ⟨#[58]⟩ ++ l) 0 (att1 p q sp) = .ok ((sp, l), [((sp, ⟨#[120]⟩), ⟨#[49]⟩, 11), ((⟨#[]⟩, ⟨#[120]⟩), ⟨#[50]⟩, 12)])
  b1 : binds [] (ps (att1 p q sp)) = (L1 p q sp, H1 p q)
  o2 : opS (L1 p q sp) l 0 [] = .ok ((sp, l), [])
  o3 : opS (L1 p q sp) l 0 (att3 p q) = .error (12, 5)
  b3 : binds (L1 p q sp) (ps (att3 p q)) = (L1 p q sp, [])
  r : resS (L1 p q sp) (q ++ ⟨#[58]⟩ ++ l) = (sp, l, 0)
theorem sf (i j k : Fin 26) (sp : ByteArray) (v1 : ¬ sp.toList = XML_L) (v2 : ¬ sp.toList = XNS_L) (v3 : ¬ sp.toList = []) : SF (nn2 112 i) (nn2 113 j) (nn2 108 k) sp :=
  ⟨rfl, rfl, rfl, o1 i j k sp v1 v2 v3, b1 i j sp, o2 i j k sp, o3 i j k sp, b3 i j sp, r_ql i j k sp⟩
theorem app_size (a b : ByteArray) : (a ++ b).size = a.size + b.size := ByteArray.size_append
theorem att1_sz {p q sp : ByteArray} (hp : p.size = 2) (hq : q.size = 2) : ∀ a ∈ att1 p q sp, a.1.size ≤ maxLen := by
  intro x hx
  simp only [att1, List.mem_cons, List.not_mem_nil, or_false] at hx
  rcases hx with rfl | rfl | rfl | rfl | rfl
  · show (_ ++ p).size ≤ _
    rw [app_size, hp]
    decide
  · show (_ ++ q).size ≤ _
    rw [app_size, hq]
    decide
  · show (⟨#[120, 109, 108, 110, 115]⟩ : ByteArray).size ≤ maxLen
    decide
  · show (p ++ _).size ≤ _
    rw [app_size, hp]
    decide
  · decide
theorem att3_sz {p q : ByteArray} (hp : p.size = 2) (hq : q.size = 2) : ∀ a ∈ att3 p q, a.1.size ≤ maxLen := by
  intro x hx
  simp only [att3, List.mem_cons, List.not_mem_nil, or_false] at hx
  rcases hx with rfl | rfl
  · show (p ++ _).size ≤ _
    rw [app_size, hp]
    decide
  · show (q ++ _).size ≤ _
    rw [app_size, hq]
    decide
theorem att1_len (p q sp : ByteArray) : (att1 p q sp).length ≤ 1000000 := by simp [att1]
theorem att1_max (p q sp : ByteArray) : (att1 p q sp).length ≤ maxLen := by simp [att1, maxLen]
theorem att3_len (p q : ByteArray) : (att3 p q).length ≤ 1000000 := by simp [att3]
theorem att3_max (p q : ByteArray) : (att3 p q).length ≤ maxLen := by simp [att3, maxLen]
theorem jn_sz {p l : ByteArray} (hp : p.size = 2) (hl : l.size = 2) : (p ++ ⟨#[58]⟩ ++ l).size ≤ maxLen := by
  rw [app_size, app_size, hp, hl]
  decide
theorem op1 {w4 : World} {W g2 cap2 : Nat} {p q l sp : ByteArray} (HF : SF p q l sp) (hS4 : SC (fun k => k = W) w4 W [] []) (hA4 : AtO w4 (some ⟨g2, 0, none⟩) (att1 p q sp)) (hgg : ∀ (g off : Nat), (some ⟨g2, 0, none⟩ : Option Addr) = some ⟨g, off, none⟩ → ¬ g = W) :
   Calls Try.prog 12 #[.pointer (some ⟨W, 0, none⟩), evV 1 0 (p ++ ⟨#[58]⟩ ++ l) ⟨#[]⟩ (some ⟨g2, 0, none⟩) 5 cap2] w4 fun e w' => ∃ sv, e = .returned (.tuple #[.agg #[.string sp, .string l, sv, .int .i64 0], .int .i64 0, .int .i64 0]) ∧ Fro (fun k => k = W) w4 w' ∧ ∃ O' : Nat → Prop, (∀ k, O' k → k = W ∨ w4.heap.size ≤ k) ∧ SC O' w' W (L1 p q sp) [H1 p q] ∧ w'.ownsRow w4.heap.size 74 4 sv 2 [.string sp, .string ⟨#[120]⟩, .string ⟨#[49]⟩, .int .i64 11, .string ⟨#[]⟩, .string ⟨#[120]⟩, .string ⟨#[50]⟩, .int .i64 12] ∧ ∀ k, sv.ownBlock = some k → ¬ O' k := by
  have h := open_ok (cap := cap2) (ats := att1 p q sp) hS4 1 0 _ ⟨#[]⟩ (jn_sz HF.zp HF.zl) hA4 (fun q => by simp at q) hgg (by simp) (att1_len p q sp) HF.o1 HF.b1
  exact h
theorem op2 {O : Nat → Prop} {w : World} {W : Nat} {p q l sp : ByteArray} (HF : SF p q l sp) (hS : SC O w W (L1 p q sp) [H1 p q]) :
   Calls Try.prog 12 #[.pointer (some ⟨W, 0, none⟩), evV 1 0 l ⟨#[]⟩ none 0 0] w fun e w' => ∃ a c, e = .returned (.tuple #[.agg #[.string sp, .string l, .slice a 0 c, .int .i64 0], .int .i64 0, .int .i64 0]) ∧ Fro O w w' ∧ ∃ O' : Nat → Prop, (∀ k, O' k → O k ∨ w.heap.size ≤ k) ∧ SC O' w' W (L1 p q sp) [H1 p q, []] := by
  have hz : l.size ≤ maxLen := by rw [HF.zl]; decide
  have h := open_ok (cap := 0) (ats := []) (a := none) hS 1 0 _ ⟨#[]⟩ hz (.inl ⟨rfl, rfl⟩) (fun _ => rfl) (fun g off e => by simp at e) (by simp) (by simp) HF.o2 (binds_nil _)
  refine Calls.mono h ?_
  rintro e w' ⟨sv, rfl, hf, O', h1, h2, h3, h4⟩
  obtain ⟨a, c, rfl⟩ := row_form h3
  exact ⟨a, c, rfl, hf, O', h1, h2⟩
theorem op3 {O : Nat → Prop} {w : World} {W g : Nat} {p q l sp : ByteArray} (HF : SF p q l sp) (hS : SC O w W (L1 p q sp) [H1 p q, []]) (hA : AtO w (some ⟨g, 0, none⟩) (att3 p q)) (hg : ¬ O g) :
   Calls Try.prog 12 #[.pointer (some ⟨W, 0, none⟩), evV 1 0 l ⟨#[]⟩ (some ⟨g, 0, none⟩) 2 2] w fun e w' => e = .returned (.tuple #[zT, .int .i64 12, .int .i64 5]) ∧ Fro O w w' ∧ ∃ O' : Nat → Prop, (∀ k, O' k → O k ∨ w.heap.size ≤ k) ∧ SC O' w' W (L1 p q sp) [H1 p q, []] := by
  have hz : l.size ≤ maxLen := by rw [HF.zl]; decide
  have h := open_err (cap := 2) (ats := att3 p q) hS 1 0 _ ⟨#[]⟩ hz hA (fun q => by simp at q) (fun g' off e => by simp at e; rw [← e.1]; exact hg) (by simp) (att3_len p q) HF.o3
  refine Calls.mono h ?_
  rintro e w' ⟨rfl, hf, O', l', h1, h2, h3⟩
  refine ⟨rfl, hf, O', h1, ?_⟩
  have : l' = L1 p q sp := by
    rcases h2 with h2 | ⟨h', hp, rfl⟩
    · exact h2
    · rw [HF.b3] at hp ⊢
      have : h' = [] := List.perm_nil.1 hp
      rw [this]
      rfl
  rw [this] at h3
  exact h3
end Go.Proofs.Ytgidbmiahckleaa
