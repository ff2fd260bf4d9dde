/- Fields: what a closure reads; the program's read and whole. -/
import Derived.Test.YtijcbgjlofcdfaaRd1
import Derived.Shelf.Abstract
namespace Go.Proofs.Ytijcbgjlofcdfaa
open Go.RowKit
set_option linter.unusedVariables false

/-- A field: its function and what it holds. -/
abbrev Fn := Nat × Array Value
abbrev fnV (f : Fn) : Value := .func (.func f.1) #[] f.2
/-- What a field does to a state and a text. -/
abbrev Gd (σ : Type) := σ → List Int → Option (σ × List Int)
/-- What a call of a field gives. -/
def FcP {σ : Type} (U : World) (O : Nat → Prop) (St : σ → World → Prop) (r : Option (σ × List Int)) (n : Nat) (e : Ending) (W' : World) : Prop :=
  ∃ (t : ByteArray) (b : Bool) (a' : σ), e = .returned (.tuple #[.string t, .bool b]) ∧ Fro O U W' ∧ St a' W' ∧ t.size ≤ n ∧ (match r with | some x => b = true ∧ a' = x.1 ∧ bl t = x.2 | none => b = false)
structure FC {σ : Type} (U : World) (O : Nat → Prop) (St : σ → World → Prop) (f : Fn) (g : Gd σ) : Prop where
  en : ∀ args w, (callFunc f.1 args).run Try.prog w = .ok (.enter f.1 args) w
  go : ∀ (W : World) (a : σ) (s : ByteArray), Fro O U W → St a W → s.size ≤ maxLen → Calls Try.prog f.1 (#[.string s] ++ f.2) W (FcP U O St (g a (bl s)) s.size)
/-- Fields one behind the other. -/
def runG {σ : Type} : List (Gd σ) → Gd σ
  | [], a, l => some (a, l)
  | g :: gs, a, l => (g a l).bind fun x => runG gs x.1 x.2
inductive FCs {σ : Type} (U : World) (O : Nat → Prop) (St : σ → World → Prop) : List Fn → List (Gd σ) → Prop
  | nil : FCs U O St [] []
  | cons {f : Fn} {g : Gd σ} {fs : List Fn} {gs : List (Gd σ)} : FC U O St f g → FCs U O St fs gs → FCs U O St (f :: fs) (g :: gs)
theorem FCs.len {σ : Type} {U : World} {O : Nat → Prop} {St : σ → World → Prop} {fs : List Fn} {gs : List (Gd σ)} (h : FCs U O St fs gs) : fs.length = gs.length := by
  induction h with
  | nil => rfl
  | cons _ _ ih => simp [ih]
theorem FCs.drop {σ : Type} {U : World} {O : Nat → Prop} {St : σ → World → Prop} : ∀ {fs : List Fn} {gs : List (Gd σ)} (h : FCs U O St fs gs) (i : Nat), FCs U O St (fs.drop i) (gs.drop i)
  | _, _, .nil, i => by simpa using FCs.nil
  | _, _, .cons a b, 0 => .cons a b
  | _, _, .cons a b, i + 1 => by simpa using b.drop i
/-- What read gives. -/
def RdP {σ : Type} (U : World) (O : Nat → Prop) (St : σ → World → Prop) (r : Option (σ × List Int)) (n : Nat) (e : Ending) (W' : World) : Prop :=
  ∃ (t : ByteArray) (b : Bool) (a' : σ), e = .returned (.tuple #[.string t, .bool b]) ∧ Fro O U W' ∧ St a' W' ∧ t.size ≤ n ∧ (match r with | some x => b = true ∧ a' = x.1 ∧ bl t = x.2 | none => b = false ∧ t = ⟨#[]⟩)
set_option maxHeartbeats 800000 in
theorem read_p {σ : Type} {U : World} {O : Nat → Prop} {St : σ → World → Prop} {fs : List Fn} {gs : List (Gd σ)} (hf : FCs U O St fs gs) (B : Nat) (hB : U.heap[B]? = some (.cells (fs.map fnV).toArray 69 (0, 0))) (hO : ¬ O B) (hn : fs.length ≤ 100) (W : World) (a : σ) (s : ByteArray) (hW : Fro O U W) (ha : St a W) (hs : s.size ≤ maxLen) :
    Calls Try.prog 65 #[.string s, .slice (some ⟨B, 0, none⟩) fs.length fs.length] W (RdP U O St (runG gs a (bl s)) s.size) := by
  have hlen := hf.len
  have HF : Hid _ := And.intro hf (And.intro hB (And.intro hlen (And.intro hO hs)))
  have HW : Hid _ := And.intro hW ha
  clear hf hB hlen hO hW ha
  obtain ⟨N, hN⟩ : ∃ N, fs.length = N := ⟨_, rfl⟩
  have HN : Hid _ := hN
  rw [hN] at hn ⊢
  clear hN
  unfold maxLen at hs
  obtain ⟨R, hR⟩ : ∃ R, runG gs a (bl s) = R := ⟨_, rfl⟩
  rw [hR]
  have HR : Hid _ := hR
  clear hR
  go_enter Try.func65, Try.ntmps65
  go_wp2_with fail
  go_loopg [0, 5, 10] N (fun g v0 v5 v10 wr => ∃ (i : Nat) (t : ByteArray) (a' : σ) (b : Bool), i + g = N ∧ v10 = .int .i64 (i : Int) ∧ v0 = .string t ∧ v5 = .bool b ∧ t.size ≤ s.size ∧ runG (gs.drop i) a' (bl t) = R ∧ Fro O U wr ∧ St a' wr)
  case atStart => exact ⟨0, s, a, false, by omega, rfl, rfl, rfl, Nat.le_refl _, HR.out, HW.out.1, HW.out.2⟩
  case round =>
    obtain ⟨i, t, a', b, hig, rfl, rfl, rfl, hts, hrg, hfr, hst⟩ := hrel
    by_cases hlt : (i : Int) < (N : Int)
    · obtain ⟨g, rfl⟩ : ∃ g, gk = g + 1 := ⟨gk - 1, by omega⟩
      have hi1 : i < fs.length := by have := HN.out; omega
      have hi2 : i < gs.length := by have := HF.out.2.2.1; omega
      have hd := HF.out.1.drop i
      rw [List.drop_eq_getElem_cons hi1, List.drop_eq_getElem_cons hi2] at hd
      obtain ⟨f, hfe⟩ : ∃ f, fs[i] = f := ⟨_, rfl⟩
      obtain ⟨gg, hge⟩ : ∃ gg, gs[i] = gg := ⟨_, rfl⟩
      have hcell : wr.cell? ⟨B, i, none⟩ = some (fnV f) := by
        have hb := hfr.at HF.out.2.1 HF.out.2.2.2.1
        simp only [World.cell?, hb]
        simp [hi1, hfe]
      rw [hfe, hge] at hd
      rw [List.drop_eq_getElem_cons hi2, hge] at hrg
      cases hd with
      | cons hc hcs =>
      have hen := hc.en
      have hgo := hc.go wr a' t hfr hst (by unfold maxLen; omega)
      have HG : Hid _ := And.intro hgo (And.intro hrg trivial)
      clear hgo hrg hc hcs hfr hst hfe hge hi1 hi2
      obtain ⟨f1, f2⟩ := f
      dsimp only at *
      go_wp2_with fail
      refine Calls.mono HG.out.1 ?_
      rintro e w1 ⟨t1, b1, a1, rfl, hfr1, hst1, hts1, hm⟩
      have hrg := HG.out.2.1
      rw [runG] at hrg
      clear HG
      cases hgx : gg a' (bl t) with
      | none =>
        rw [hgx] at hm hrg
        obtain rfl : b1 = false := hm
        have HE : Hid _ := And.intro hrg (And.intro hfr1 (And.intro hst1 trivial))
        clear hrg hfr1 hst1 hgx hen hcell hts1
        go_wp2_with fail
        go_ret2
        have hR2 : R = none := HE.out.1.symm
        refine ⟨⟨#[]⟩, false, a1, rfl, HE.out.2.1, HE.out.2.2.1, Nat.zero_le _, ?_⟩
        rw [hR2]
        exact ⟨rfl, rfl⟩
      | some x =>
        rw [hgx] at hm hrg
        obtain ⟨rfl, rfl, hbl⟩ := hm
        have hrg2 : runG (gs.drop (i + 1)) x.1 x.2 = R := hrg
        rw [← hbl] at hrg2
        have HE : Hid _ := And.intro hrg2 (And.intro hfr1 (And.intro hst1 trivial))
        have ht1 : t1.size ≤ s.size := by omega
        clear hrg hrg2 hfr1 hst1 hgx hen hcell hts1 hbl
        go_wp2_with fail
        go_roundg g
        case measure => omega
        case rel => exact ⟨i + 1, t1, x.1, true, by omega, by simp, rfl, rfl, ht1, HE.out.1, HE.out.2.1, HE.out.2.2.1⟩
    · have hiN : i = N := by omega
      subst hiN
      have hg2 : gs.drop i = [] := List.drop_eq_nil_of_le (by have := HF.out.2.2.1; have := HN.out; omega)
      rw [hg2] at hrg
      have HE : Hid _ := And.intro hrg (And.intro hfr (And.intro hst hts))
      clear hrg hfr hst hts hg2
      go_wp2_with fail
      go_ret2
      refine ⟨t, true, a', rfl, HE.out.2.1, HE.out.2.2.1, HE.out.2.2.2, ?_⟩
      rw [← HE.out.1]
      exact ⟨rfl, rfl, rfl⟩
/-- What whole gives. -/
def WhP {σ : Type} (U : World) (O : Nat → Prop) (St : σ → World → Prop) (r : Option (σ × List Int)) (e : Ending) (W' : World) : Prop :=
  ∃ (b : Bool) (a' : σ), e = .returned (.bool b) ∧ Fro O U W' ∧ St a' W' ∧ (b = true → r = some (a', [])) ∧ (b = false → ∀ x, r = some x → x.2 ≠ [])
theorem bl_inj {s t : ByteArray} (h : bl s = bl t) : s = t := by
  have h1 : s.data.toList = t.data.toList := by
    have := congrArg (List.map fun c : Int => UInt8.ofNat c.toNat) h
    simpa [bl, List.map_map, Function.comp_def] using this
  exact ByteArray.ext (Array.toList_inj.1 h1)
set_option maxHeartbeats 400000 in
theorem whole_p {σ : Type} {U : World} {O : Nat → Prop} {St : σ → World → Prop} {fs : List Fn} {gs : List (Gd σ)} (hf : FCs U O St fs gs) (B : Nat) (hB : U.heap[B]? = some (.cells (fs.map fnV).toArray 69 (0, 0))) (hO : ¬ O B) (hn : fs.length ≤ 100) (W : World) (a : σ) (s : ByteArray) (hW : Fro O U W) (ha : St a W) (hs : s.size ≤ maxLen) :
    Calls Try.prog 28 #[.string s, .slice (some ⟨B, 0, none⟩) fs.length fs.length] W (WhP U O St (runG gs a (bl s))) := by
  have HM : Hid _ := And.intro (read_p hf B hB hO hn W a s hW ha hs) trivial
  clear hW ha hf hB
  obtain ⟨N, hN⟩ : ∃ N, fs.length = N := ⟨_, rfl⟩
  rw [hN] at hn HM ⊢
  clear hN
  generalize runG gs a (bl s) = R at *
  go_enter Try.func28, Try.ntmps28
  go_wp2_with fail
  refine Calls.mono HM.out.1 ?_
  rintro e w1 ⟨t, b, a1, rfl, hfr, hst, hts, hm⟩
  cases R with
  | none =>
    obtain ⟨rfl, rfl⟩ := hm
    have HE : Hid _ := And.intro hfr (And.intro hst trivial)
    clear hfr hst
    go_wp2_with fail
    go_ret
    exact ⟨false, a1, rfl, HE.out.1, HE.out.2.1, (fun q => by cases q), fun _ x q => by cases q⟩
  | some x =>
    obtain ⟨rfl, rfl, hbl⟩ := hm
    have HE : Hid _ := And.intro hfr (And.intro hst hbl)
    clear hfr hst hbl
    by_cases h0 : t.size = 0
    · have hq := tl_ee h0
      have hx : x.2 = [] := by rw [← HE.out.2.2]; exact bl_nil h0
      have HX : Hid _ := hx
      clear hx h0
      go_wp2_with fail
      go_ret
      exact ⟨true, x.1, rfl, HE.out.1, HE.out.2.1, (fun _ => by rw [← HX.out]), fun q => by cases q⟩
    · have hq := tl_nn (show 0 < t.size by omega)
      have hx : x.2 ≠ [] := by
        rw [← HE.out.2.2]
        intro q
        have := bl_len t
        rw [q] at this
        simp at this
        omega
      have HX : Hid _ := And.intro hx trivial
      clear hx h0
      go_wp2_with fail
      go_ret
      exact ⟨false, x.1, rfl, HE.out.1, HE.out.2.1, (fun q => by cases q), fun _ y hy => by cases hy; exact HX.out.1⟩
end Go.Proofs.Ytijcbgjlofcdfaa
