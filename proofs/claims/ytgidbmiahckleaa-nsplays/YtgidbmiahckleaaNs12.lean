/- Open: an element begins. -/
import Derived.Test.YtgidbmiahckleaaNs11
namespace Go.Proofs.Ytgidbmiahckleaa
open Go.RowKit
set_option linter.unusedVariables false

abbrev Ats := List (ByteArray × ByteArray × Int)
def bad (a : ByteArray × ByteArray × Int) : Bool := !mayS a.1 a.2.1
/-- What Open answers. -/
def opS (l : Bs) (nm : ByteArray) (pl : Int) (ats : Ats) : Except (Int × Int) ((ByteArray × ByteArray) × List Out) :=
  match ats.find? bad with
  | some a => .error (a.2.2, 2)
  | none => tagS (binds l (ps ats)).1 nm pl ats
/-- What is bound behind an Open that failed. -/
def Ba (l : Bs) (ats : Ats) (l' : Bs) : Prop := l' = l ∨ ∃ h', h'.Perm (binds l (ps ats)).2 ∧ l' = back (binds l (ps ats)).1 h'
def OpP (O : Nat → Prop) (w : World) (P : Nat) (l : Bs) (hs : List Hs) (nm : ByteArray) (pl : Int) (ats : Ats) (e : Ending) (w' : World) : Prop :=
  Fro O w w' ∧ ∃ O' : Nat → Prop, (∀ k, O' k → O k ∨ w.heap.size ≤ k) ∧ match opS l nm pl ats with
    | .error x => e = .returned (.tuple #[zT, .int .i64 x.1, .int .i64 x.2]) ∧ ∃ l', Ba l ats l' ∧ SC O' w' P l' hs
    | .ok x => ∃ sv, e = .returned (.tuple #[.agg #[.string x.1.1, .string x.1.2, sv, .int .i64 pl], .int .i64 0, .int .i64 0]) ∧ SC O' w' P (binds l (ps ats)).1 (hs ++ [(binds l (ps ats)).2]) ∧ w'.ownsRow w.heap.size 74 4 sv x.2.length (x.2.flatMap ac) ∧ ∀ k, sv.ownBlock = some k → ¬ O' k
theorem AtO.fro {O : Nat → Prop} {w w' : World} {a : Option Addr} {ats : Ats} (h : AtO w a ats) (hf : Fro O w w') (hO : ats ≠ [] → ∀ g off, a = some ⟨g, off, none⟩ → ¬ O g) : AtO w' a ats := by
  by_cases hne : ats = []
  · exact .inl hne
  rcases h with h | ⟨g, off, rfl, h1, h2, h3⟩
  · exact .inl h
  · have hO := hO hne
    refine .inr ⟨g, off, rfl, Nat.lt_of_lt_of_le h1 hf.size, h2, fun i hi => ?_⟩
    obtain ⟨a0, a1, a2, a3⟩ := h3 i hi
    exact ⟨(hf.cell h1 (hO g off rfl)).trans a0, (hf.cell h1 (hO g off rfl)).trans a1, (hf.cell h1 (hO g off rfl)).trans a2, a3⟩
theorem AtO.below {w w' : World} {a : Option Addr} {ats : Ats} (h : AtO w a ats) (hb : Below w.heap.size w w') : AtO w' a ats := h.fro (Fro.below (O := fun _ => False) hb) (fun _ _ _ _ q => q)
theorem find_bad (ats : Ats) (i : Nat) (hi : i < ats.length) (h : (ats.take i).all (fun a => !bad a) = true) (hb : bad (ats[i]'hi) = true) : ats.find? bad = some (ats[i]'hi) := by
  have e : ats = ats.take i ++ ats[i]'hi :: ats.drop (i + 1) := by
    rw [← List.drop_eq_getElem_cons hi, List.take_append_drop]
  have h1 : (ats.take i).find? bad = none := by
    rw [List.find?_eq_none]
    intro x hx
    have := List.all_eq_true.1 h x hx
    simpa using this
  generalize hA : ats[i]'hi = A at *
  rw [e, List.find?_append, h1, List.find?_cons, hb]
  rfl
theorem tgo_err (l : Bs) : ∀ (ats : Ats) (out : List Out) (x : Int × Int), tgo l ats out = .error x → x.2 ≠ 0
  | [], out, x, h => by simp [tgo] at h
  | a :: ats, out, x, h => by
    rw [tgo] at h
    split at h
    · exact tgo_err l ats _ x h
    · split at h
      · rename_i h1
        simp at h
        rw [← h]
        exact h1
      · split at h
        · simp at h
          rw [← h]
          show (5 : Int) ≠ 0
          decide
        · exact tgo_err l ats _ x h
theorem tagS_err {l : Bs} {nm : ByteArray} {pl : Int} {ats : Ats} {x : Int × Int} (h : tagS l nm pl ats = .error x) : x.2 ≠ 0 := by
  unfold tagS at h
  split at h
  · rename_i h1
    simp at h
    rw [← h]
    exact h1
  · cases ht : tgo l ats [] with
    | error y =>
      rw [ht] at h
      simp at h
      rw [← h]
      exact tgo_err l ats [] y ht
    | ok y => rw [ht] at h; simp at h
set_option maxRecDepth 100000 in
set_option maxHeartbeats 3200000 in
theorem open_s {O : Nat → Prop} {w : World} {P : Nat} {l : Bs} {hs : List Hs} (hS : SC O w P l hs) (k pl : Int) (nm tx : ByteArray) (hz : nm.size ≤ maxLen) {a : Option Addr} {cap : Nat} {ats : Ats} (hA : AtO w a ats) (hcap : a = none → cap = 0) (hg : ats ≠ [] → ∀ g off, a = some ⟨g, off, none⟩ → ¬ O g) (hn : hs.length ≤ 1000000) (hcnt : ats.length ≤ 1000000) :
    Calls Try.prog 12 #[.pointer (some ⟨P, 0, none⟩), evV k pl nm tx a ats.length cap] w (OpP O w P l hs nm pl ats) := by
  have hb0 : Below w.heap.size w ((w.alloc (.cells #[.int .i64 k, .int .i64 pl, .string nm, .string tx, .slice a ats.length cap] 35)).alloc (.cells #[.string ⟨#[]⟩, .string ⟨#[]⟩, .slice none 0 0, .int .i64 0] 40)) := ((Below.refl _ _).alloc (Nat.le_refl _) _).alloc (by simp) _
  have hbx := xa2 w (.cells #[.int .i64 k, .int .i64 pl, .string nm, .string tx, .slice a ats.length cap] 35) (.cells #[.string ⟨#[]⟩, .string ⟨#[]⟩, .slice none 0 0, .int .i64 0] 40)
  have hrs : ((w.alloc (.cells #[.int .i64 k, .int .i64 pl, .string nm, .string tx, .slice a ats.length cap] 35)).alloc (.cells #[.string ⟨#[]⟩, .string ⟨#[]⟩, .slice none 0 0, .int .i64 0] 40)).heap[w.heap.size + 1]? = some (.cells #[.string ⟨#[]⟩, .string ⟨#[]⟩, .slice none 0 0, .int .i64 0] 40 (0, 0)) := by
    have := nw_heap (w.alloc (.cells #[.int .i64 k, .int .i64 pl, .string nm, .string tx, .slice a ats.length cap] 35)) (.cells #[.string ⟨#[]⟩, .string ⟨#[]⟩, .slice none 0 0, .int .i64 0] 40)
    rwa [sza] at this
  have HH : Hid _ := And.intro hb0 (And.intro hbx (And.intro hrs (And.intro hS (And.intro hA hg))))
  clear hb0 hbx hrs hS hA hg
  have b4 := (bl5 HH.out.2.1).1.2.2.2.2
  go_enter Try.func12, Try.ntmps12
  go_wp2_with fail
  go_loopg [15] ats.length (fun m v15 wr => ∃ i : Nat, v15 = .int .i64 i ∧ i + m = ats.length ∧ (ats.take i).all (fun a => !bad a) = true ∧ Below (w.heap.size + 1 + 1) ((w.alloc (.cells #[.int .i64 k, .int .i64 pl, .string nm, .string tx, .slice a ats.length cap] 35)).alloc (.cells #[.string ⟨#[]⟩, .string ⟨#[]⟩, .slice none 0 0, .int .i64 0] 40)) wr)
  case atStart => exact ⟨0, rfl, by omega, rfl, Below.refl _ _⟩
  case round =>
    obtain ⟨i, rfl, him, hall, hbw⟩ := hrel
    have hzw := hbw.size
    simp only [sza] at hzw
    have hB := HH.out.1.trans (hbw.mono (by omega))
    have bx := (hbw.block w.heap.size (by omega)).trans HH.out.2.1
    have rs := (hbw.block (w.heap.size + 1) (by omega)).trans HH.out.2.2.1
    by_cases hi : i < ats.length
    · rcases HH.out.2.2.2.2.1 with he | ⟨g, off, rfl, hAR⟩
      · rw [he] at hi; simp at hi
      obtain ⟨a0, a1, a2, asz⟩ := hAR.2.2 i hi
      have e0 := (hB.cell (p := ⟨g, off + i * 3, none⟩) hAR.1).trans a0
      have e1 := (hB.cell (p := ⟨g, off + i * 3 + 1, none⟩) hAR.1).trans a1
      have e2 := (hB.cell (p := ⟨g, off + i * 3 + 2, none⟩) hAR.1).trans a2
      have hfb := find_bad ats i hi hall
      have htk : (ats.take (i + 1)).all (fun a => !bad a) = ((ats.take i).all (fun a => !bad a) && !bad (ats[i]'hi)) := by
        rw [List.take_add_one, List.getElem?_eq_getElem hi, List.all_append]
        simp
      generalize (ats[i]'hi) = A at *
      obtain ⟨an, av, ap⟩ := A
      dsimp only at *
      have hM := fun W => maybind_s an av ap W asz
      have hbd : bad (an, av, ap) = !mayS an av := rfl
      generalize mayS an av = mb at *
      have HR : Hid _ := And.intro hM (And.intro hB (And.intro bx (And.intro rs (And.intro hfb (And.intro htk (And.intro hbd (And.intro hall hbw)))))))
      clear hM hB bx rs hfb htk hbd a0 a1 a2 hall hbw
      obtain ⟨m, rfl⟩ : ∃ m, gk = m + 1 := ⟨gk - 1, by omega⟩
      go_wp2_with fail
      refine Calls.mono (HR.out.1 _) ?_
      rintro e w3 ⟨rfl, hb3⟩
      have hz3 := hb3.size
      simp only [sza] at hz3
      have hA3 : w3.heap[wr.heap.size]? = some (.cells #[.string an, .string av, .int .i64 ap] 72 (0, 0)) := (hb3.block _ (by simp only [sza]; omega)).trans (nw_heap _ _)
      have hw3 : Below wr.heap.size wr w3 := ((Below.refl _ _).alloc (Nat.le_refl _) (.cells #[.string an, .string av, .int .i64 ap] 72)).trans (hb3.mono (by simp only [sza]; omega))
      cases mb
      · have b1 := (bl3 hA3).2.2
        have rs3 := (hw3.block _ (lt_of HR.out.2.2.2.1)).trans HR.out.2.2.2.1
        obtain ⟨⟨c00, c01, c02, c03⟩, d00, d01, d02, d03⟩ := bl4 rs3
        have H3 : Hid _ := And.intro hw3 rs3
        clear hb3 hA3 hw3 rs3
        go_upto_region 5 with fail
        go_region
        go_wp2_with fail
        obtain ⟨q1, q2, q3, q4⟩ := set4 (HR.out.2.1.trans (H3.out.1.mono (by omega))) (Nat.le_add_right _ 1) H3.out.2 (.string ⟨#[]⟩) (.string ⟨#[]⟩) (.slice none 0 0) (.int .i64 0)
        generalize ((((w3.setCell ⟨w.heap.size + 1, 0, none⟩ (.string ⟨#[]⟩)).setCell ⟨w.heap.size + 1, 1, none⟩ (.string ⟨#[]⟩)).setCell ⟨w.heap.size + 1, 2, none⟩ (.slice none 0 0)).setCell ⟨w.heap.size + 1, 3, none⟩ (.int .i64 0)) = W5 at *
        obtain ⟨⟨y0, y1, y2, y3⟩, _⟩ := bl4 (w2 := W5.drew) q1
        refine bodyPost_ret (v := .tuple #[zT, .int .i64 ap, .int .i64 2]) (by simp [results, Try.results12, go_sem, y0, y1, y2, y3]) rfl ⟨Fro.below q2.drew, O, fun k hk => .inl hk, ?_⟩
        have e : opS l nm pl ats = .error (ap, 2) := by
          unfold opS
          rw [HR.out.2.2.2.2.1 (by rw [HR.out.2.2.2.2.2.2.1]; rfl)]
        rw [e]
        exact ⟨rfl, l, .inl rfl, HH.out.2.2.2.1.below q2.drew⟩
      · have H3 : Hid _ := hw3
        clear hb3 hA3 hw3
        go_wp2_with fail
        go_roundg m
        case measure => omega
        case rel =>
          refine ⟨i + 1, rfl, by omega, ?_, HR.out.2.2.2.2.2.2.2.2.trans (H3.out.mono (by omega))⟩
          rw [HR.out.2.2.2.2.2.1, HR.out.2.2.2.2.2.2.1, HR.out.2.2.2.2.2.2.2.1]
          rfl
    · obtain rfl : i = ats.length := by omega
      have hgk : gk = 0 := by omega
      subst hgk
      have hno : ats.find? bad = none := by
        rw [List.find?_eq_none]
        intro x hx
        rw [List.take_length] at hall
        simpa using List.all_eq_true.1 hall x hx
      have hop : opS l nm pl ats = tagS (binds l (ps ats)).1 nm pl ats := by unfold opS; rw [hno]
      have hS0 := HH.out.2.2.2.1
      have hg0 := HH.out.2.2.2.2.2
      have hA1 := HH.out.2.2.2.2.1.below hB
      have hBS := bind_sc (cap := cap) (hS0.below hB) hA1 hcap hg0 hn
      have hnB : ¬ O w.heap.size := fun q => by have := hS0.lt _ q; omega
      have hnC : ¬ O (w.heap.size + 1) := fun q => by have := hS0.lt _ q; omega
      obtain ⟨⟨v0, v1, v2, v3, v4⟩, _⟩ := bl5 bx
      have HR : Hid _ := And.intro hB (And.intro bx (And.intro rs (And.intro hop (And.intro hA1 (And.intro hBS (And.intro hnB hnC))))))
      clear hB bx rs hall hbw hno hop hS0 hg0 hA1 hBS hnB hnC
      go_wp2_with fail
      refine Calls.mono HR.out.2.2.2.2.2.1 ?_
      rintro e w3 ⟨rfl, hS3, hf3⟩
      have bx3 := (hf3.block w.heap.size (by omega) HR.out.2.2.2.2.2.2.1).trans HR.out.2.1
      have rs3 := (hf3.block (w.heap.size + 1) (by omega) HR.out.2.2.2.2.2.2.2).trans HR.out.2.2.1
      obtain ⟨⟨x0, x1, x2, x3, x4⟩, _⟩ := bl5 bx3
      have hA3 := HR.out.2.2.2.2.1.fro hf3 HH.out.2.2.2.2.2
      obtain ⟨nv3, hv3, xs3, s1, s2, s3⟩ := hS3.ex
      have hT := tag_s (cap := cap) s1 s2 k pl nm tx hz hA3 hcnt
      have hz3 := hf3.size
      have H3 : Hid _ := And.intro hS3 (And.intro hf3 (And.intro rs3 hT))
      clear hS3 hf3 rs3 bx3 hA3 s1 s2 s3 hT v0 v1 v2 v3 v4
      go_wp2_with fail
      refine Calls.mono H3.out.2.2.2 ?_
      rintro e w4 ⟨hb4, hm⟩
      have hb5 : ∀ o, Below w3.heap.size w3 (w4.alloc o) := fun o => hb4.alloc hb4.size o
      have rs5 := fun o => ((hb5 o).block _ (lt_of H3.out.2.2.1)).trans H3.out.2.2.1
      have hS5 := fun o => H3.out.1.below (hb5 o)
      have hnn := binds_nn (ps ats) l [] (fun q => absurd rfl q)
      have hC := fun o => close_sc (hS5 o) hnn hn
      have hF5 : ∀ o, Fro O w (w4.alloc o) := fun o => ((Fro.below HR.out.1).trans H3.out.2.1).trans (Fro.below (hb5 o))
      have hz4 := hb4.size
      have hne1 : w.heap.size + 1 ≠ w4.heap.size := by omega
      have kc := fun o => (bl4 (rs5 o)).1
      have kf := fun o => (bl4 (rs5 o)).2
      have H5 : Hid _ := And.intro hC (And.intro hF5 (And.intro rs5 (And.intro hS5 hb5)))
      clear hC hF5 rs5 hS5 hb5 hnn
      cases hts : tagS (binds l (ps ats)).1 nm pl ats with
      | error x =>
        rw [hts] at hm
        obtain ⟨x1, x2⟩ := x
        dsimp only at hm
        subst hm
        have hx2 : ¬ x2 = 0 := tagS_err hts
        clear hb4 kc kf
        go_wp2_with fail
        refine Calls.mono (H5.out.1 _) ?_
        rintro e w6 ⟨rfl, h', hp, hS6, hf6⟩
        have hnC3 : ¬ (O (w.heap.size + 1) ∨ (wr.heap.size ≤ w.heap.size + 1 ∧ w.heap.size + 1 < w3.heap.size)) := by
          rintro (q | q)
          · exact HR.out.2.2.2.2.2.2.2 q
          · omega
        have rs6 := (hf6.block (w.heap.size + 1) (by simp only [sza]; omega) hnC3).trans (H5.out.2.2.1 _)
        obtain ⟨⟨c00, c01, c02, c03⟩, d00, d01, d02, d03⟩ := bl4 rs6
        have hF6 := (H5.out.2.1 _).trans' hf6 (fun i hi q => by
          rcases q with q | q
          · exact q
          · omega)
        have H6 : Hid _ := And.intro hS6 (And.intro hp (And.intro hF6 (And.intro rs6 hnC3)))
        clear hS6 hp hF6 rs6 hf6 hnC3
        go_wp2_with fail
        obtain ⟨q1, q2, q3, q4⟩ := set4 (Below.refl (w.heap.size + 1) w6) (Nat.le_refl _) H6.out.2.2.2.1 (.string ⟨#[]⟩) (.string ⟨#[]⟩) (.slice none 0 0) (.int .i64 0)
        generalize ((((w6.setCell ⟨w.heap.size + 1, 0, none⟩ (.string ⟨#[]⟩)).setCell ⟨w.heap.size + 1, 1, none⟩ (.string ⟨#[]⟩)).setCell ⟨w.heap.size + 1, 2, none⟩ (.slice none 0 0)).setCell ⟨w.heap.size + 1, 3, none⟩ (.int .i64 0)) = W5 at *
        obtain ⟨⟨y0, y1, y2, y3⟩, _⟩ := bl4 q1
        have f6 : Fro (fun j => j = w.heap.size + 1) w6 W5 := ⟨q2.os, q2.tape, q2.output, q2.size, fun j _ hj => q4 j hj⟩
        refine bodyPost_ret (v := .tuple #[zT, .int .i64 x1, .int .i64 x2]) (by simp [results, Try.results12, go_sem, y0, y1, y2, y3]) rfl ⟨H6.out.2.2.1.trans' f6 (fun i hi q => by omega), (fun j => O j ∨ (wr.heap.size ≤ j ∧ j < w3.heap.size)), fun j hj => ?_, ?_⟩
        rotate_left
        · rw [HR.out.2.2.2.1, hts]
          exact ⟨rfl, _, .inr ⟨h', H6.out.2.1, rfl⟩, H6.out.1.fro f6 (fun j hj q => H6.out.2.2.2.2 (by rw [← q]; exact hj))⟩
        · rcases hj with q | q
          · exact .inl q
          · exact .inr (by omega)
      | ok x =>
        rw [hts] at hm
        obtain ⟨⟨n1, n2⟩, out⟩ := x
        dsimp only at hm
        obtain ⟨sv, rfl, hr4⟩ := hm
        obtain ⟨sa, sc, rfl⟩ := row_form hr4
        have H6 : Hid _ := And.intro hb4 hr4
        clear hb4 hr4
        go_wp2_with fail
        obtain ⟨q1, q2, q3, q4⟩ := set4 (Below.refl (w.heap.size + 1) (w4.alloc (.cells #[.string n1, .string n2, .slice sa out.length sc, .int .i64 pl] 40))) (Nat.le_refl _) (H5.out.2.2.1 _) (.string n1) (.string n2) (.slice sa out.length sc) (.int .i64 pl)
        have hF6 := H5.out.2.1 (.cells #[.string n1, .string n2, .slice sa out.length sc, .int .i64 pl] 40)
        have hS6 := H5.out.2.2.2.1 (.cells #[.string n1, .string n2, .slice sa out.length sc, .int .i64 pl] 40)
        have hr6 := row_below H6.out.2 ((Below.refl _ _).alloc (Nat.le_refl _) (.cells #[.string n1, .string n2, .slice sa out.length sc, .int .i64 pl] 40))
        generalize (w4.alloc (.cells #[.string n1, .string n2, .slice sa out.length sc, .int .i64 pl] 40)) = w6 at *
        generalize ((((w6.setCell ⟨w.heap.size + 1, 0, none⟩ (.string n1)).setCell ⟨w.heap.size + 1, 1, none⟩ (.string n2)).setCell ⟨w.heap.size + 1, 2, none⟩ (.slice sa out.length sc)).setCell ⟨w.heap.size + 1, 3, none⟩ (.int .i64 pl)) = W5 at *
        obtain ⟨⟨y0, y1, y2, y3⟩, _⟩ := bl4 q1
        have f6 : Fro (fun j => j = w.heap.size + 1) w6 W5 := ⟨q2.os, q2.tape, q2.output, q2.size, fun j _ hj => q4 j hj⟩
        refine bodyPost_ret (v := .tuple #[.agg #[.string n1, .string n2, .slice sa out.length sc, .int .i64 pl], .int .i64 0, .int .i64 0]) (by simp [results, Try.results12, go_sem, y0, y1, y2, y3]) rfl ⟨hF6.trans' f6 (fun i hi q => by omega), (fun j => O j ∨ (wr.heap.size ≤ j ∧ j < w3.heap.size)), fun j hj => ?_, ?_⟩
        · rcases hj with q | q
          · exact .inl q
          · exact .inr (by omega)
        · rw [HR.out.2.2.2.1, hts]
          refine ⟨_, rfl, hS6.fro f6 (fun j hj q => ?_), ?_, fun j e q => ?_⟩
          · rcases hj with p | p
            · rw [q] at p; exact HR.out.2.2.2.2.2.2.2 p
            · omega
          · have h7 := row_same hr6 (fun j e => q4 j (fun q => by have := (row_base hr6 j e).1; omega))
            obtain ⟨h8, h9⟩ := h7
            refine ⟨h8, ?_⟩
            rcases h9 with h9 | ⟨g, cap, cur, e, b1, b2⟩
            · exact .inl h9
            · exact .inr ⟨g, cap, cur, e, by omega, b2⟩
          · have hj := (row_base H6.out.2 j e).1
            rcases q with q | q
            · have := HH.out.2.2.2.1.lt j q; omega
            · omega
end Go.Proofs.Ytgidbmiahckleaa
