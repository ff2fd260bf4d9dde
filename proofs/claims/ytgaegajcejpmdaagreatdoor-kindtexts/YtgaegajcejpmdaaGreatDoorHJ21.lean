/- Joined: HDtRd2, HDtRd3, HDtRd4, HDtRd5, HDtRd6, HDtRd7, HDtRd8, HDtRd9, HDtRa1, HDtRa2, HDtRa3, HDtRs1, HDtRs2, HDtRs3, HDtRs4, HDtRs5, HDtKn. -/
import Derived.Test.YtgaegajcejpmdaaGreatDoorHJ20
import Derived.Shelf.Abstract
import Derived.Test.YtgaegajcejpmdaaGreatDoorHJ6
namespace Go.Proofs.YtgaegajcejpmdaaGreatDoor.Dt
open Go.RowKit
set_option linter.unusedVariables false

/-- A field: its function and what it holds. -/
abbrev Fn := Nat × Array Value
abbrev fnV (f : Fn) : Value := .func (.func f.1) #[] f.2
/-- What a field does to a state and a text. -/
abbrev Gd (σ : Type) := σ → List Int → Option (σ × List Int)
/-- What a call of a field gives. -/
def FcP {σ : Type} (U : World) (O : Nat → Prop) (St : σ → World → Prop) (r : Option (σ × List Int)) (n : Nat) (e : Ending) (W' : World) : Prop :=
  ∃ (t : ByteArray) (b : Bool) (a' : σ), e = .returned (.tuple #[.string t, .bool b]) ∧ Fro O U W' ∧ St a' W' ∧ t.size ≤ n ∧ (match r with | some x => b = true ∧ a' = x.1 ∧ bl t = x.2 | none => b = false)
structure FC {σ : Type} (U : World) (O : Nat → Prop) (St : σ → World → Prop) (f : Fn) (g : Gd σ) : Prop where
  en : ∀ args w, (callFunc f.1 args).run Tryz.prog w = .ok (.enter f.1 args) w
  go : ∀ (W : World) (a : σ) (s : ByteArray), Fro O U W → St a W → s.size ≤ maxLen → Calls Tryz.prog f.1 (#[.string s] ++ f.2) W (FcP U O St (g a (bl s)) s.size)
/-- Fields one behind the other. -/
def runG {σ : Type} : List (Gd σ) → Gd σ
  | [], a, l => some (a, l)
  | g :: gs, a, l => (g a l).bind fun x => runG gs x.1 x.2
inductive FCs {σ : Type} (U : World) (O : Nat → Prop) (St : σ → World → Prop) : List Fn → List (Gd σ) → Prop
  | nil : FCs U O St [] []
  | cons {f : Fn} {g : Gd σ} {fs : List Fn} {gs : List (Gd σ)} : FC U O St f g → FCs U O St fs gs → FCs U O St (f :: fs) (g :: gs)
theorem FCs.len {σ : Type} {U : World} {O : Nat → Prop} {St : σ → World → Prop} {fs : List Fn} {gs : List (Gd σ)} (h : FCs U O St fs gs) : fs.length = gs.length := by
  induction h with
  | nil => rfl
  | cons _ _ ih => simp [ih]
theorem FCs.drop {σ : Type} {U : World} {O : Nat → Prop} {St : σ → World → Prop} : ∀ {fs : List Fn} {gs : List (Gd σ)} (h : FCs U O St fs gs) (i : Nat), FCs U O St (fs.drop i) (gs.drop i)
  | _, _, .nil, i => by simpa using FCs.nil
  | _, _, .cons a b, 0 => .cons a b
  | _, _, .cons a b, i + 1 => by simpa using b.drop i
/-- What read gives. -/
def RdP {σ : Type} (U : World) (O : Nat → Prop) (St : σ → World → Prop) (r : Option (σ × List Int)) (n : Nat) (e : Ending) (W' : World) : Prop :=
  ∃ (t : ByteArray) (b : Bool) (a' : σ), e = .returned (.tuple #[.string t, .bool b]) ∧ Fro O U W' ∧ St a' W' ∧ t.size ≤ n ∧ (match r with | some x => b = true ∧ a' = x.1 ∧ bl t = x.2 | none => b = false ∧ t = ⟨#[]⟩)
set_option maxHeartbeats 800000 in
theorem read_p {σ : Type} {U : World} {O : Nat → Prop} {St : σ → World → Prop} {fs : List Fn} {gs : List (Gd σ)} (hf : FCs U O St fs gs) (B : Nat) (hB : U.heap[B]? = some (.cells (fs.map fnV).toArray 138 (0, 0))) (hO : ¬ O B) (hn : fs.length ≤ 100) (W : World) (a : σ) (s : ByteArray) (hW : Fro O U W) (ha : St a W) (hs : s.size ≤ maxLen) :
    Calls Tryz.prog 154 #[.string s, .slice (some ⟨B, 0, none⟩) fs.length fs.length] W (RdP U O St (runG gs a (bl s)) s.size) := by
  have hlen := hf.len
  have HF : Hid _ := And.intro hf (And.intro hB (And.intro hlen (And.intro hO hs)))
  have HW : Hid _ := And.intro hW ha
  clear hf hB hlen hO hW ha
  obtain ⟨N, hN⟩ : ∃ N, fs.length = N := ⟨_, rfl⟩
  have HN : Hid _ := hN
  rw [hN] at hn ⊢
  clear hN
  unfold maxLen at hs
  obtain ⟨R, hR⟩ : ∃ R, runG gs a (bl s) = R := ⟨_, rfl⟩
  rw [hR]
  have HR : Hid _ := hR
  clear hR
  go_enter Tryz.func154, Tryz.ntmps154
  go_wp2_with fail
  go_loopg [0, 5, 10] N (fun g v0 v5 v10 wr => ∃ (i : Nat) (t : ByteArray) (a' : σ) (b : Bool), i + g = N ∧ v10 = .int .i64 (i : Int) ∧ v0 = .string t ∧ v5 = .bool b ∧ t.size ≤ s.size ∧ runG (gs.drop i) a' (bl t) = R ∧ Fro O U wr ∧ St a' wr)
  case atStart => exact ⟨0, s, a, false, by omega, rfl, rfl, rfl, Nat.le_refl _, HR.out, HW.out.1, HW.out.2⟩
  case round =>
    obtain ⟨i, t, a', b, hig, rfl, rfl, rfl, hts, hrg, hfr, hst⟩ := hrel
    by_cases hlt : (i : Int) < (N : Int)
    · obtain ⟨g, rfl⟩ : ∃ g, gk = g + 1 := ⟨gk - 1, by omega⟩
      have hi1 : i < fs.length := by have := HN.out; omega
      have hi2 : i < gs.length := by have := HF.out.2.2.1; omega
      have hd := HF.out.1.drop i
      rw [List.drop_eq_getElem_cons hi1, List.drop_eq_getElem_cons hi2] at hd
      obtain ⟨f, hfe⟩ : ∃ f, fs[i] = f := ⟨_, rfl⟩
      obtain ⟨gg, hge⟩ : ∃ gg, gs[i] = gg := ⟨_, rfl⟩
      have hcell : wr.cell? ⟨B, i, none⟩ = some (fnV f) := by
        have hb := hfr.at HF.out.2.1 HF.out.2.2.2.1
        simp only [World.cell?, hb]
        simp [hi1, hfe]
      rw [hfe, hge] at hd
      rw [List.drop_eq_getElem_cons hi2, hge] at hrg
      cases hd with
      | cons hc hcs =>
      have hen := hc.en
      have hgo := hc.go wr a' t hfr hst (by unfold maxLen; omega)
      have HG : Hid _ := And.intro hgo (And.intro hrg trivial)
      clear hgo hrg hc hcs hfr hst hfe hge hi1 hi2
      obtain ⟨f1, f2⟩ := f
      dsimp only at *
      go_wp2_with fail
      refine Calls.mono HG.out.1 ?_
      rintro e w1 ⟨t1, b1, a1, rfl, hfr1, hst1, hts1, hm⟩
      have hrg := HG.out.2.1
      rw [runG] at hrg
      clear HG
      cases hgx : gg a' (bl t) with
      | none =>
        rw [hgx] at hm hrg
        obtain rfl : b1 = false := hm
        have HE : Hid _ := And.intro hrg (And.intro hfr1 (And.intro hst1 trivial))
        clear hrg hfr1 hst1 hgx hen hcell hts1
        go_wp2_with fail
        go_ret2
        have hR2 : R = none := HE.out.1.symm
        refine ⟨⟨#[]⟩, false, a1, rfl, HE.out.2.1, HE.out.2.2.1, Nat.zero_le _, ?_⟩
        rw [hR2]
        exact ⟨rfl, rfl⟩
      | some x =>
        rw [hgx] at hm hrg
        obtain ⟨rfl, rfl, hbl⟩ := hm
        have hrg2 : runG (gs.drop (i + 1)) x.1 x.2 = R := hrg
        rw [← hbl] at hrg2
        have HE : Hid _ := And.intro hrg2 (And.intro hfr1 (And.intro hst1 trivial))
        have ht1 : t1.size ≤ s.size := by omega
        clear hrg hrg2 hfr1 hst1 hgx hen hcell hts1 hbl
        go_wp2_with fail
        go_roundg g
        case measure => omega
        case rel => exact ⟨i + 1, t1, x.1, true, by omega, by simp, rfl, rfl, ht1, HE.out.1, HE.out.2.1, HE.out.2.2.1⟩
    · have hiN : i = N := by omega
      subst hiN
      have hg2 : gs.drop i = [] := List.drop_eq_nil_of_le (by have := HF.out.2.2.1; have := HN.out; omega)
      rw [hg2] at hrg
      have HE : Hid _ := And.intro hrg (And.intro hfr (And.intro hst hts))
      clear hrg hfr hst hts hg2
      go_wp2_with fail
      go_ret2
      refine ⟨t, true, a', rfl, HE.out.2.1, HE.out.2.2.1, HE.out.2.2.2, ?_⟩
      rw [← HE.out.1]
      exact ⟨rfl, rfl, rfl⟩
/-- What whole gives. -/
def WhP {σ : Type} (U : World) (O : Nat → Prop) (St : σ → World → Prop) (r : Option (σ × List Int)) (e : Ending) (W' : World) : Prop :=
  ∃ (b : Bool) (a' : σ), e = .returned (.bool b) ∧ Fro O U W' ∧ St a' W' ∧ (b = true → r = some (a', [])) ∧ (b = false → ∀ x, r = some x → x.2 ≠ [])
theorem bl_inj {s t : ByteArray} (h : bl s = bl t) : s = t := by
  have h1 : s.data.toList = t.data.toList := by
    have := congrArg (List.map fun c : Int => UInt8.ofNat c.toNat) h
    simpa [bl, List.map_map, Function.comp_def] using this
  exact ByteArray.ext (Array.toList_inj.1 h1)
set_option maxHeartbeats 400000 in
theorem whole_p {σ : Type} {U : World} {O : Nat → Prop} {St : σ → World → Prop} {fs : List Fn} {gs : List (Gd σ)} (hf : FCs U O St fs gs) (B : Nat) (hB : U.heap[B]? = some (.cells (fs.map fnV).toArray 138 (0, 0))) (hO : ¬ O B) (hn : fs.length ≤ 100) (W : World) (a : σ) (s : ByteArray) (hW : Fro O U W) (ha : St a W) (hs : s.size ≤ maxLen) :
    Calls Tryz.prog 113 #[.string s, .slice (some ⟨B, 0, none⟩) fs.length fs.length] W (WhP U O St (runG gs a (bl s))) := by
  have HM : Hid _ := And.intro (read_p hf B hB hO hn W a s hW ha hs) trivial
  clear hW ha hf hB
  obtain ⟨N, hN⟩ : ∃ N, fs.length = N := ⟨_, rfl⟩
  rw [hN] at hn HM ⊢
  clear hN
  generalize runG gs a (bl s) = R at *
  go_enter Tryz.func113, Tryz.ntmps113
  go_wp2_with fail
  refine Calls.mono HM.out.1 ?_
  rintro e w1 ⟨t, b, a1, rfl, hfr, hst, hts, hm⟩
  cases R with
  | none =>
    obtain ⟨rfl, rfl⟩ := hm
    have HE : Hid _ := And.intro hfr (And.intro hst trivial)
    clear hfr hst
    go_wp2_with fail
    go_ret
    exact ⟨false, a1, rfl, HE.out.1, HE.out.2.1, (fun q => by cases q), fun _ x q => by cases q⟩
  | some x =>
    obtain ⟨rfl, rfl, hbl⟩ := hm
    have HE : Hid _ := And.intro hfr (And.intro hst hbl)
    clear hfr hst hbl
    by_cases h0 : t.size = 0
    · have hq := tl_ee h0
      have hx : x.2 = [] := by rw [← HE.out.2.2]; exact bl_nil h0
      have HX : Hid _ := hx
      clear hx h0
      go_wp2_with fail
      go_ret
      exact ⟨true, x.1, rfl, HE.out.1, HE.out.2.1, (fun _ => by rw [← HX.out]), fun q => by cases q⟩
    · have hq := tl_nn (show 0 < t.size by omega)
      have hx : x.2 ≠ [] := by
        rw [← HE.out.2.2]
        intro q
        have := bl_len t
        rw [q] at this
        simp at this
        omega
      have HX : Hid _ := And.intro hx trivial
      clear hx h0
      go_wp2_with fail
      go_ret
      exact ⟨false, x.1, rfl, HE.out.1, HE.out.2.1, (fun q => by cases q), fun _ y hy => by cases hy; exact HX.out.1⟩
end Go.Proofs.YtgaegajcejpmdaaGreatDoor.Dt
namespace Go.Proofs.YtgaegajcejpmdaaGreatDoor.Dt
open Go.RowKit
set_option linter.unusedVariables false

theorem cl1 {W : World} {X : Nat} {v : Value} {t : TypeId} (h : W.heap[X]? = some (.cells #[v] t (0, 0))) : W.cell? ⟨X, 0, none⟩ = some v := by simp [World.cell?, h]
theorem cl_at {W : World} {X i : Nat} {cs : Array Value} {t : TypeId} {v : Value} (h : W.heap[X]? = some (.cells cs t (0, 0))) (hi : cs[i]? = some v) : W.cell? ⟨X, i, none⟩ = some v ∧ W.frozen? ⟨X, i, none⟩ = false := by
  refine ⟨by simp [World.cell?, h, hi], by simp [World.frozen?, h]⟩
theorem fro_set (W : World) (X i : Nat) (u : Value) : Fro (fun k => k = X) W (W.setCell ⟨X, i, none⟩ u) := (Fro.refl (fun k => k = X) W).set (X := X) (i := i) (.inl rfl) u
theorem set_get {cs : Array Value} {i : Nat} {v : Value} (h : cs[i]? = some v) (u : Value) : (cs.setIfInBounds i u)[i]? = some u := by
  have hlt : i < cs.size := (Array.getElem?_eq_some_iff.1 h).1
  rw [Array.getElem?_setIfInBounds]
  simp [hlt]
theorem set_set (cs : Array Value) (i : Nat) (u v : Value) : (cs.setIfInBounds i u).setIfInBounds i v = cs.setIfInBounds i v := by
  apply Array.toList_inj.1
  simp
set_option maxHeartbeats 400000 in
theorem mark_c (s : ByteArray) (c : UInt8) (b : Nat) (W : World) (hb : W.heap[b]? = some (.cells #[.string ⟨#[c]⟩] 9 (0, 0))) (hs : s.size ≤ maxLen) :
    Calls Tryz.prog 187 #[.string s, .pointer (some ⟨b, 0, none⟩)] W fun e W' => e = .returned (.tuple #[.string (if (bl s).head? = some (c.toNat : Int) then s.extract 1 s.size else s), .bool (decide ((bl s).head? = some (c.toNat : Int)))]) ∧ W' = W := by
  have HM : Hid _ := And.intro (cp_p s c W hs) trivial
  have hc := cl1 hb
  clear hb
  generalize (if (bl s).head? = some (c.toNat : Int) then s.extract 1 s.size else s) = r at *
  generalize (decide ((bl s).head? = some (c.toNat : Int))) = b at *
  go_enter Tryz.func187, Tryz.ntmps187
  go_wp2_with (first | (go_at_call 156; refine Calls.mono HM.out.1 ?_; rintro e w' ⟨rfl, rfl⟩))
  go_ret2
  exact ⟨rfl, rfl⟩
/-- two: how many digits, their number, whether it will do. -/
def twOk (lo hi : Int) (l : List Int) : Bool := decide (dk 2 l = 2) && decide (lo ≤ dvl (l.take (dk 2 l))) && decide (dvl (l.take (dk 2 l)) ≤ hi)
theorem dk_le (m : Nat) (l : List Int) : dk m l ≤ m ∧ dk m l ≤ l.length ∧ dk m l ≤ dgs l := by
  have := dgs_len l
  unfold dk
  omega
theorem two_in (lo hi : Int) (l : List Int) : inB lo hi l = if twOk lo hi l then some (dvl (l.take (dk 2 l)), l.drop (dk 2 l)) else none := by
  unfold inB nmB twOk
  by_cases h : dgs l < 2
  · have : ¬ dk 2 l = 2 := by unfold dk; omega
    rw [if_pos h]
    simp [this]
  · have : dk 2 l = 2 := by unfold dk; omega
    rw [if_neg h, this]
    simp only [Option.bind_some]
    by_cases h1 : lo ≤ dvl (l.take 2)
    · by_cases h2 : dvl (l.take 2) ≤ hi
      · rw [if_neg (by omega)]; simp [h1, h2]
      · rw [if_pos (by omega)]; simp [h2]
    · rw [if_pos (by omega)]; simp [h1]
set_option maxHeartbeats 800000 in
theorem two_c (s : ByteArray) (b1 b2 b3 B off : Nat) (lo hi : Int) (W : World) (cs : Array Value) (t : TypeId) (v : Value) (h1 : W.heap[b1]? = some (.cells #[.pointer (some ⟨B, off, none⟩)] 167 (0, 0))) (h2 : W.heap[b2]? = some (.cells #[.int .i64 lo] 3 (0, 0))) (h3 : W.heap[b3]? = some (.cells #[.int .i64 hi] 3 (0, 0)))
    (hB : W.heap[B]? = some (.cells cs t (0, 0))) (hv : cs[off]? = some v) (n1 : B ≠ b1) (n2 : B ≠ b2) (n3 : B ≠ b3) (hs : s.size ≤ maxLen) :
    Calls Tryz.prog 190 #[.string s, .pointer (some ⟨b1, 0, none⟩), .pointer (some ⟨b2, 0, none⟩), .pointer (some ⟨b3, 0, none⟩)] W fun e W' => e = .returned (.tuple #[.string (s.extract (dk 2 (bl s)) s.size), .bool (twOk lo hi (bl s))]) ∧ W'.heap[B]? = some (.cells (cs.setIfInBounds off (.int .i64 (dvl ((bl s).take (dk 2 (bl s)))))) t (0, 0)) ∧ Fro (fun k => k = B) W W' := by
  have HM : Hid _ := And.intro (digits_p s 2 W hs (by omega)) trivial
  have c1 := cl1 h1
  obtain ⟨cB, fB⟩ := cl_at hB hv
  have hk := dk_le 2 (bl s)
  rw [bl_len] at hk
  have hvb := dvl_bd (l := bl s) (j := dk 2 (bl s)) hk.2.2 (by omega)
  have HO : Hid (twOk lo hi (bl s) = (decide (dk 2 (bl s) = 2) && decide (lo ≤ dvl ((bl s).take (dk 2 (bl s)))) && decide (dvl ((bl s).take (dk 2 (bl s))) ≤ hi))) := (rfl : twOk lo hi (bl s) = _)
  generalize twOk lo hi (bl s) = OKK at *
  generalize hV : dvl ((bl s).take (dk 2 (bl s))) = V at *
  generalize hK : dk 2 (bl s) = K at *
  clear hV hK
  obtain ⟨hk0, hk1, _⟩ := hk
  obtain ⟨hv0, hv1⟩ := hvb
  unfold maxLen at hs
  have hfin : ∀ q, (((W.setCell ⟨B, off, none⟩ (.int .i64 V)).drewN q).heap[B]? = some (.cells (cs.setIfInBounds off (.int .i64 V)) t (0, 0))) ∧ Fro (fun k => k = B) W ((W.setCell ⟨B, off, none⟩ (.int .i64 V)).drewN q) := fun q => ⟨bset hB _, (fro_set W B off _).drewN q⟩
  have c2 : (W.setCell ⟨B, off, none⟩ (.int .i64 V)).cell? ⟨b2, 0, none⟩ = some (.int .i64 lo) := cl1 ((Below.heap_setCell _ _ _ _ (by simpa using n2.symm)).trans h2)
  have c3 : (W.setCell ⟨B, off, none⟩ (.int .i64 V)).cell? ⟨b3, 0, none⟩ = some (.int .i64 hi) := cl1 ((Below.heap_setCell _ _ _ _ (by simpa using n3.symm)).trans h3)
  have HF : Hid _ := And.intro hfin (And.intro c2 c3)
  clear hfin c2 c3 h1 h2 h3 hB hv
  go_enter Tryz.func190, Tryz.ntmps190
  go_wp2_with (first | (go_at_call 189; refine Calls.mono HM.out.1 ?_; rintro e w' ⟨rfl, rfl⟩))
  generalize hW2 : (w'.setCell ⟨B, off, none⟩ (.int .i64 V)) = W2 at *
  clear hW2 cB fB c1 HM
  obtain ⟨c2, c3⟩ := HF.out.2
  have hkI : (K : Int) ≤ (s.size : Int) := by omega
  by_cases q1 : (K : Int) = 2
  · have d1 : decide (K = 2) = true := by simp; omega
    by_cases q2 : lo ≤ V
    · have d2 : decide (lo ≤ V) = true := by simpa using q2
      by_cases q3 : V ≤ hi
      · have d3 : decide (V ≤ hi) = true := by simpa using q3
        go_quiet (fail)
        go_wp2_with fail
        go_ret2
        have hK2 : K = 2 := by omega
        subst hK2
        exact ⟨by rw [HO.out, d1, d2, d3]; rfl, HF.out.1 _⟩
      · have d3 : decide (V ≤ hi) = false := by simpa using q3
        go_quiet (fail)
        go_wp2_with fail
        go_ret2
        have hK2 : K = 2 := by omega
        subst hK2
        exact ⟨by rw [HO.out, d1, d2, d3]; rfl, HF.out.1 _⟩
    · have d2 : decide (lo ≤ V) = false := by simpa using q2
      go_quiet (fail)
      go_wp2_with fail
      go_ret2
      have hK2 : K = 2 := by omega
      subst hK2
      exact ⟨by rw [HO.out, d1, d2]; rfl, HF.out.1 _⟩
  · have d1 : decide (K = 2) = false := by simp; omega
    have q1' : decide ((K : Int) = 2) = false := by simpa using q1
    go_quiet (fail)
    go_wp2_with fail
    go_ret2
    exact ⟨by rw [HO.out, d1]; rfl, HF.out.1 _⟩
set_option maxHeartbeats 400000 in
theorem number_c (s : ByteArray) (b1 B off : Nat) (W : World) (cs : Array Value) (t : TypeId) (v : Value) (h1 : W.heap[b1]? = some (.cells #[.pointer (some ⟨B, off, none⟩)] 167 (0, 0)))
    (hB : W.heap[B]? = some (.cells cs t (0, 0))) (hv : cs[off]? = some v) (n1 : B ≠ b1) (hs : s.size ≤ maxLen) :
    Calls Tryz.prog 209 #[.string s, .pointer (some ⟨b1, 0, none⟩)] W fun e W' => e = .returned (.tuple #[.string (s.extract (dk 9 (bl s)) s.size), .bool (decide (0 < dk 9 (bl s)))]) ∧ W'.heap[B]? = some (.cells (cs.setIfInBounds off (.int .i64 (dvl ((bl s).take (dk 9 (bl s)))))) t (0, 0)) ∧ Fro (fun k => k = B) W W' := by
  have HM : Hid _ := And.intro (digits_p s 9 W hs (by omega)) trivial
  have c1 := cl1 h1
  obtain ⟨cB, fB⟩ := cl_at hB hv
  have hk := dk_le 9 (bl s)
  rw [bl_len] at hk
  generalize hV : dvl ((bl s).take (dk 9 (bl s))) = V at *
  generalize hK : dk 9 (bl s) = K at *
  clear hV hK
  obtain ⟨hk0, hk1, _⟩ := hk
  unfold maxLen at hs
  have HF : Hid _ := And.intro (bset (i := off) hB (.int .i64 V)) (fro_set W B off (.int .i64 V))
  have hkI : (K : Int) ≤ (s.size : Int) := by omega
  clear h1 hB hv
  go_enter Tryz.func209, Tryz.ntmps209
  go_wp2_with (first | (go_at_call 189; refine Calls.mono HM.out.1 ?_; rintro e w' ⟨rfl, rfl⟩))
  go_ret2
  exact ⟨rfl, HF.out⟩
/-- yearInto: what is left, whether it will do, the year. -/
def yrK (l : List Int) : List Int := if l.head? = some 45 then l.tail else l
def yrOk (l : List Int) : Bool := decide (4 ≤ dk 9 l) && decide (0 < dvl (l.take (dk 9 l))) && !(decide (4 < dk 9 l) && decide (l.head? = some 48))
def yrV (l : List Int) : Int := if l.head? = some 45 then - dvl ((yrK l).take (dk 9 (yrK l))) else dvl ((yrK l).take (dk 9 (yrK l)))
theorem head_get (s : ByteArray) (h : 0 < s.size) : (bl s).head? = some ((s[0]'h).toNat : Int) := by rw [bl_cons s h]; rfl
set_option maxHeartbeats 1000000 in
theorem year_c (s : ByteArray) (b1 B off : Nat) (W : World) (cs : Array Value) (t : TypeId) (v : Value) (h1 : W.heap[b1]? = some (.cells #[.pointer (some ⟨B, off, none⟩)] 167 (0, 0)))
    (hB : W.heap[B]? = some (.cells cs t (0, 0))) (hv : cs[off]? = some v) (n1 : B ≠ b1) (hs : s.size ≤ maxLen) :
    Calls Tryz.prog 188 #[.string s, .pointer (some ⟨b1, 0, none⟩)] W fun e W' => ∃ t' : ByteArray, e = .returned (.tuple #[.string t', .bool (yrOk (yrK (bl s)))]) ∧ bl t' = (yrK (bl s)).drop (dk 9 (yrK (bl s))) ∧ t'.size ≤ s.size ∧ W'.heap[B]? = some (.cells (cs.setIfInBounds off (.int .i64 (yrV (bl s)))) t (0, 0)) ∧ Fro (fun k => k = B) W W' := by
  have hm1 := cp_p s 45 W hs
  have e45 : ((45 : UInt8).toNat : Int) = 45 := rfl
  rw [e45] at hm1
  obtain ⟨r, hr⟩ : ∃ r, (if (bl s).head? = some 45 then s.extract 1 s.size else s) = r := ⟨_, rfl⟩
  have hbr : bl r = yrK (bl s) := by
    rw [← hr]
    unfold yrK
    by_cases h : (bl s).head? = some 45
    · rw [if_pos h, if_pos h, bl_ext, List.drop_one]
    · rw [if_neg h, if_neg h]
  have hrs : r.size ≤ s.size := by
    rw [← hr]
    split
    · rw [ByteArray.size_extract]; omega
    · omega
  rw [hr] at hm1
  clear hr
  have hm2 := digits_p r 9 W (by omega) (by omega)
  have hyv : yrV (bl s) = if (bl s).head? = some 45 then - dvl ((bl r).take (dk 9 (bl r))) else dvl ((bl r).take (dk 9 (bl r))) := by unfold yrV; rw [hbr]
  rw [← hbr]
  obtain ⟨neg, hneg⟩ : ∃ neg, decide ((bl s).head? = some 45) = neg := ⟨_, rfl⟩
  have hyv2 : yrV (bl s) = if neg = true then - dvl ((bl r).take (dk 9 (bl r))) else dvl ((bl r).take (dk 9 (bl r))) := by
    rw [hyv, ← hneg]
    simp
  rw [hneg] at hm1
  clear hyv hneg hbr
  have hk := dk_le 9 (bl r)
  rw [bl_len] at hk
  have hvb := dvl_bd (l := bl r) (j := dk 9 (bl r)) hk.2.2 (by omega)
  have hbt : ∀ K, bl (r.extract K r.size) = (bl r).drop K := fun K => bl_suf r K
  have hsz : ∀ K, (r.extract K r.size).size ≤ s.size := fun K => by rw [ByteArray.size_extract]; omega
  have hok : yrOk (bl r) = (decide (4 ≤ dk 9 (bl r)) && decide (0 < dvl ((bl r).take (dk 9 (bl r)))) && !(decide (4 < dk 9 (bl r)) && decide ((bl r).head? = some 48))) := rfl
  have h48 : ∀ h : 0 < r.size, decide ((bl r).head? = some 48) = decide (((r[0]'h).toNat : Int) = 48) := fun h => by rw [head_get r h]; simp
  generalize yrOk (bl r) = OKK at *
  generalize dvl ((bl r).take (dk 9 (bl r))) = V at *
  generalize hK : dk 9 (bl r) = K at *
  clear hK
  obtain ⟨hk0, hk1, _⟩ := hk
  obtain ⟨hv0, hv1⟩ := hvb
  have hb := hbt K
  have hz := hsz K
  clear hbt hsz
  generalize decide ((bl r).head? = some 48) = Z at *
  generalize (bl r).drop K = D at *
  have HZ : Hid _ := And.intro hb (And.intro hz (And.intro hok (And.intro hyv2 h48)))
  clear hb hz hok hyv2 h48
  generalize yrV (bl s) = YV at *
  have c1 := cl1 h1
  obtain ⟨cB, fB⟩ := cl_at hB hv
  have hfin : ∀ q, neg = false → (((W.setCell ⟨B, off, none⟩ (.int .i64 V)).drewN q).heap[B]? = some (.cells (cs.setIfInBounds off (.int .i64 YV)) t (0, 0))) ∧ Fro (fun k => k = B) W ((W.setCell ⟨B, off, none⟩ (.int .i64 V)).drewN q) := fun q hn => by
    have e : YV = V := by rw [HZ.out.2.2.2.1, hn]; rfl
    rw [e]
    exact ⟨bset hB _, (fro_set W B off _).drewN q⟩
  have hfin2 : ∀ q, neg = true → ((((W.setCell ⟨B, off, none⟩ (.int .i64 V)).setCell ⟨B, off, none⟩ (.int .i64 (-V))).drewN q).heap[B]? = some (.cells (cs.setIfInBounds off (.int .i64 YV)) t (0, 0))) ∧ Fro (fun k => k = B) W (((W.setCell ⟨B, off, none⟩ (.int .i64 V)).setCell ⟨B, off, none⟩ (.int .i64 (-V))).drewN q) := fun q hn => by
    have e : YV = -V := by rw [HZ.out.2.2.2.1, hn]; rfl
    rw [e]
    refine ⟨?_, (((Fro.refl (fun k => k = B) W).set (X := B) (i := off) (.inl rfl) _).set (X := B) (i := off) (.inl rfl) _).drewN q⟩
    have := bset (i := off) (bset (i := off) hB (.int .i64 V)) (.int .i64 (-V))
    have e2 := set_set cs off (.int .i64 V) (.int .i64 (-V))
    rw [e2] at this
    exact this
  have hg2 : (W.setCell ⟨B, off, none⟩ (.int .i64 V)).cell? ⟨b1, 0, none⟩ = some (.pointer (some ⟨B, off, none⟩)) := cl1 ((Below.heap_setCell _ _ _ _ (by simpa using n1.symm)).trans h1)
  have hg3 := bset (i := off) hB (.int .i64 V)
  obtain ⟨gB, hB3⟩ := cl_at (i := off) hg3 (set_get hv _)
  have HF : Hid _ := And.intro hfin (And.intro hfin2 (And.intro hg2 (And.intro gB hB3)))
  clear hfin hfin2 hg2 hg3 gB hB3 h1 hB hv
  have HM : Hid _ := And.intro hm1 hm2
  clear hm1 hm2
  unfold maxLen at hs
  have hkI : (K : Int) ≤ (r.size : Int) := by omega
  cases neg
  · go_enter Tryz.func188, Tryz.ntmps188
    go_wp2_with (first | (go_at_call 156; refine Calls.mono HM.out.1 ?_; rintro e w' ⟨rfl, rfl⟩) | (go_at_call 189; refine Calls.mono HM.out.2 ?_; rintro e w' ⟨rfl, rfl⟩))
    clear c1 cB fB HM
    by_cases q1 : 4 ≤ (K : Int)
    · have d1 : decide (4 ≤ K) = true := by simp; omega
      have hr0 : 0 < r.size := by omega
      have hz48 := HZ.out.2.2.2.2 hr0
      by_cases q2 : 0 < V
      · have d2 : decide (0 < V) = true := by simpa using q2
        by_cases q3 : 4 < (K : Int)
        · have d3 : decide (4 < K) = true := by simp; omega
          by_cases q4 : ((r[0]'hr0).toNat : Int) = 48
          · have d4 : Z = true := by rw [hz48]; simpa using q4
            clear hz48
            have hO : OKK = false := by rw [HZ.out.2.2.1, d1, d2, d3, d4]; rfl
            subst hO
            go_quiet (fail)
            go_wp2_with fail
            go_ret2
            exact ⟨r.extract K r.size, rfl, HZ.out.1, HZ.out.2.1, HF.out.1 _ (by first | rfl | trivial)⟩
          · have d4 : Z = false := by rw [hz48]; simpa using q4
            have d4' : (((r[0]'hr0).toNat : Int) == 48) = false := by simpa using q4
            clear hz48
            have hO : OKK = true := by rw [HZ.out.2.2.1, d1, d2, d3, d4]; rfl
            subst hO
            go_quiet (fail)
            go_wp2_with fail
            go_ret2
            exact ⟨r.extract K r.size, rfl, HZ.out.1, HZ.out.2.1, HF.out.1 _ (by first | rfl | trivial)⟩
        · have d3 : decide (4 < K) = false := by simp; omega
          have d3' : decide (4 < (K : Int)) = false := by simpa using q3
          clear hz48
          have hO : OKK = true := by rw [HZ.out.2.2.1, d1, d2, d3]; rfl
          subst hO
          go_quiet (fail)
          go_wp2_with fail
          go_ret2
          exact ⟨r.extract K r.size, rfl, HZ.out.1, HZ.out.2.1, HF.out.1 _ (by first | rfl | trivial)⟩
      · have d2 : decide (0 < V) = false := by simpa using q2
        clear hz48
        have hO : OKK = false := by rw [HZ.out.2.2.1, d1, d2]; rfl
        subst hO
        go_quiet (fail)
        go_wp2_with fail
        go_ret2
        exact ⟨r.extract K r.size, rfl, HZ.out.1, HZ.out.2.1, HF.out.1 _ (by first | rfl | trivial)⟩
    · have d1 : decide (4 ≤ K) = false := by simp; omega
      have d1' : decide (4 ≤ (K : Int)) = false := by simpa using q1
      have hO : OKK = false := by rw [HZ.out.2.2.1, d1]; rfl
      subst hO
      go_quiet (fail)
      go_wp2_with fail
      go_ret2
      exact ⟨r.extract K r.size, rfl, HZ.out.1, HZ.out.2.1, HF.out.1 _ (by first | rfl | trivial)⟩
  · obtain ⟨k1, k2, k3⟩ := HF.out.2.2
    go_enter Tryz.func188, Tryz.ntmps188
    go_wp2_with (first | (go_at_call 156; refine Calls.mono HM.out.1 ?_; rintro e w' ⟨rfl, rfl⟩) | (go_at_call 189; refine Calls.mono HM.out.2 ?_; rintro e w' ⟨rfl, rfl⟩))
    clear c1 cB fB HM k1 k2 k3
    by_cases q1 : 4 ≤ (K : Int)
    · have d1 : decide (4 ≤ K) = true := by simp; omega
      have hr0 : 0 < r.size := by omega
      have hz48 := HZ.out.2.2.2.2 hr0
      by_cases q2 : 0 < V
      · have d2 : decide (0 < V) = true := by simpa using q2
        by_cases q3 : 4 < (K : Int)
        · have d3 : decide (4 < K) = true := by simp; omega
          by_cases q4 : ((r[0]'hr0).toNat : Int) = 48
          · have d4 : Z = true := by rw [hz48]; simpa using q4
            clear hz48
            have hO : OKK = false := by rw [HZ.out.2.2.1, d1, d2, d3, d4]; rfl
            subst hO
            go_quiet (fail)
            go_wp2_with fail
            go_ret2
            exact ⟨r.extract K r.size, rfl, HZ.out.1, HZ.out.2.1, HF.out.2.1 _ (by first | rfl | trivial)⟩
          · have d4 : Z = false := by rw [hz48]; simpa using q4
            have d4' : (((r[0]'hr0).toNat : Int) == 48) = false := by simpa using q4
            clear hz48
            have hO : OKK = true := by rw [HZ.out.2.2.1, d1, d2, d3, d4]; rfl
            subst hO
            go_quiet (fail)
            go_wp2_with fail
            go_ret2
            exact ⟨r.extract K r.size, rfl, HZ.out.1, HZ.out.2.1, HF.out.2.1 _ (by first | rfl | trivial)⟩
        · have d3 : decide (4 < K) = false := by simp; omega
          have d3' : decide (4 < (K : Int)) = false := by simpa using q3
          clear hz48
          have hO : OKK = true := by rw [HZ.out.2.2.1, d1, d2, d3]; rfl
          subst hO
          go_quiet (fail)
          go_wp2_with fail
          go_ret2
          exact ⟨r.extract K r.size, rfl, HZ.out.1, HZ.out.2.1, HF.out.2.1 _ (by first | rfl | trivial)⟩
      · have d2 : decide (0 < V) = false := by simpa using q2
        clear hz48
        have hO : OKK = false := by rw [HZ.out.2.2.1, d1, d2]; rfl
        subst hO
        go_quiet (fail)
        go_wp2_with fail
        go_ret2
        exact ⟨r.extract K r.size, rfl, HZ.out.1, HZ.out.2.1, HF.out.2.1 _ (by first | rfl | trivial)⟩
    · have d1 : decide (4 ≤ K) = false := by simp; omega
      have d1' : decide (4 ≤ (K : Int)) = false := by simpa using q1
      have hO : OKK = false := by rw [HZ.out.2.2.1, d1]; rfl
      subst hO
      go_quiet (fail)
      go_wp2_with fail
      go_ret2
      exact ⟨r.extract K r.size, rfl, HZ.out.1, HZ.out.2.1, HF.out.2.1 _ (by first | rfl | trivial)⟩
end Go.Proofs.YtgaegajcejpmdaaGreatDoor.Dt
namespace Go.Proofs.YtgaegajcejpmdaaGreatDoor.Dt
open Go.RowKit
set_option linter.unusedVariables false

/-- fractionInto: what is left, whether it will do, the nanoseconds (none: they are left as they are). -/
def frG (l : List Int) : Option (Option Int × List Int) :=
  if l.head? = some 46 then (if dk 9 l.tail = 0 then none else some (some (dvl (l.tail.take (dk 9 l.tail)) * 10 ^ (9 - dk 9 l.tail)), l.tail.drop (dk 9 l.tail))) else some (none, l)
def FrP (s : ByteArray) (B off : Nat) (W : World) (cs : Array Value) (t : TypeId) (v : Value) (e : Ending) (W' : World) : Prop :=
  ∃ (t' : ByteArray) (u : Value), e = .returned (.tuple #[.string t', .bool (frG (bl s)).isSome]) ∧ t'.size ≤ s.size ∧ W'.heap[B]? = some (.cells (cs.setIfInBounds off u) t (0, 0)) ∧ Fro (fun k => k = B) W W' ∧ (∃ x, u = .int .i64 x ∧ 0 ≤ x ∧ x < 1000000000 ∨ u = v) ∧ (∀ x, frG (bl s) = some x → bl t' = x.2 ∧ u = (match x.1 with | some n => .int .i64 n | none => v))
set_option maxHeartbeats 1000000 in
theorem frac_c (s : ByteArray) (b1 B off : Nat) (W : World) (cs : Array Value) (t : TypeId) (v : Value) (h1 : W.heap[b1]? = some (.cells #[.pointer (some ⟨B, off, none⟩)] 167 (0, 0)))
    (hB : W.heap[B]? = some (.cells cs t (0, 0))) (hv : cs[off]? = some v) (n1 : B ≠ b1) (hs : s.size ≤ maxLen) :
    Calls Tryz.prog 193 #[.string s, .pointer (some ⟨b1, 0, none⟩)] W (FrP s B off W cs t v) := by
  have hm1 := cp_p s 46 W hs
  have e45 : ((46 : UInt8).toNat : Int) = 46 := rfl
  rw [e45] at hm1
  by_cases hp : (bl s).head? = some 46
  · rw [if_pos hp, decide_eq_true hp] at hm1
    obtain ⟨r, hr⟩ : ∃ r, s.extract 1 s.size = r := ⟨_, rfl⟩
    have hbr : bl r = (bl s).tail := by rw [← hr, bl_ext, List.drop_one]
    have hrs : r.size ≤ s.size := by rw [← hr, ByteArray.size_extract]; omega
    rw [hr] at hm1
    clear hr
    have hm2 := digits_p r 9 W (by omega) (by omega)
    have hfr : frG (bl s) = if dk 9 (bl r) = 0 then none else some (some (dvl ((bl r).take (dk 9 (bl r))) * 10 ^ (9 - dk 9 (bl r))), (bl r).drop (dk 9 (bl r))) := by unfold frG; rw [if_pos hp, hbr]
    clear hp hbr e45
    have hk := dk_le 9 (bl r)
    rw [bl_len] at hk
    have hvb := dvl_in _ (dgs_take (l := bl r) (n := dk 9 (bl r)) hk.2.2).1
    rw [(dgs_take (l := bl r) (n := dk 9 (bl r)) hk.2.2).2] at hvb
    have hb := bl_suf r (dk 9 (bl r))
    have hz : (r.extract (dk 9 (bl r)) r.size).size ≤ s.size := by rw [ByteArray.size_extract]; omega
    generalize dvl ((bl r).take (dk 9 (bl r))) = V at *
    generalize hK : dk 9 (bl r) = K at *
    clear hK
    generalize (bl r).drop K = D at *
    obtain ⟨hk0, hk1, _⟩ := hk
    have hpw : ∀ j : Nat, j ≤ 9 - K → 0 ≤ V * 10 ^ j ∧ V * 10 ^ j < 1000000000 := by
      intro j hj
      have p1 : (0 : Int) < 10 ^ j := Int.pow_pos (by omega)
      refine ⟨Int.mul_nonneg hvb.1 (by omega), ?_⟩
      have p2 : V * 10 ^ j < 10 ^ K * 10 ^ j := Int.mul_lt_mul_of_pos_right hvb.2 p1
      rw [← Int.pow_add] at p2
      have p3 : (10 : Int) ^ (K + j) ≤ 10 ^ 9 := by
        have : (10 : Nat) ^ (K + j) ≤ 10 ^ 9 := Nat.pow_le_pow_right (by omega) (by omega)
        exact_mod_cast this
      omega
    have hps : ∀ j : Nat, V * 10 ^ (j + 1) = V * 10 ^ j * 10 := fun j => by rw [Int.pow_succ, Int.mul_assoc]
    have c1 := cl1 h1
    obtain ⟨cB, fB⟩ := cl_at hB hv
    have hfin : ∀ x : Int, (W.setCell ⟨B, off, none⟩ (.int .i64 x)).heap[B]? = some (.cells (cs.setIfInBounds off (.int .i64 x)) t (0, 0)) ∧ Fro (fun k => k = B) W (W.setCell ⟨B, off, none⟩ (.int .i64 x)) := fun x => ⟨bset hB _, fro_set W B off _⟩
    have HM : Hid _ := And.intro hm1 hm2
    have HF : Hid _ := And.intro hfin (And.intro hpw (And.intro hps (And.intro hfr (And.intro hb hz))))
    clear hm1 hm2 hfin hpw hps hfr hb hz h1 hB hv hvb
    unfold maxLen at hs
    have hkI : (K : Int) ≤ (r.size : Int) := by omega
    have hk9 : (K : Int) ≤ 9 := by omega
    go_enter Tryz.func193, Tryz.ntmps193
    go_wp2_with (first | (go_at_call 156; refine Calls.mono HM.out.1 ?_; rintro e w' ⟨rfl, hw⟩; have hw2 := hw.symm; clear hw; subst hw2) | (go_at_call 189; refine Calls.mono HM.out.2 ?_; rintro e w' ⟨rfl, hw⟩; have hw2 := hw.symm; clear hw; subst hw2))
    go_loopg [6, 23] (9 - K) (fun g v6 v23 wr => ∃ j : Nat, j + g = 9 - K ∧ v23 = .int .i64 (j : Int) ∧ v6 = .int .i64 (V * 10 ^ j) ∧ wr = W)
    case atStart => exact ⟨0, by omega, rfl, by simp, rfl⟩
    case round =>
      obtain ⟨j, hjg, rfl, rfl, hwr⟩ := hrel
      have hw3 := hwr.symm
      clear hwr
      subst hw3
      obtain ⟨hp0, hp1⟩ := HF.out.2.1 j (by omega)
      have hnx := HF.out.2.2.1 j
      have HNX : Hid _ := hnx
      clear hnx
      by_cases hlt : (j : Int) < 9 - (K : Int)
      · obtain ⟨g, rfl⟩ : ∃ g, gk = g + 1 := ⟨gk - 1, by omega⟩
        obtain ⟨hq0, hq1⟩ := HF.out.2.1 (j + 1) (by omega)
        rw [HNX.out] at hq0 hq1
        generalize V * 10 ^ j = X at *
        go_wp2_with fail
        go_roundg g
        case measure => omega
        case rel => exact ⟨j + 1, by omega, by simp, by rw [HNX.out], rfl⟩
      · have hjK : j = 9 - K := by omega
        subst hjK
        generalize hX : V * 10 ^ (9 - K) = X at *
        go_wp2_with fail
        go_ret2
        have hfr := HF.out.2.2.2.1
        refine ⟨r.extract K r.size, .int .i64 X, ?_, HF.out.2.2.2.2.2, (HF.out.1 X).1, (HF.out.1 X).2, ⟨X, .inl ⟨rfl, hp0, hp1⟩⟩, ?_⟩
        · rw [hfr]
          by_cases h0 : K = 0
          · subst h0; rfl
          · rw [if_neg h0]
            have : decide (0 < K) = true := by simp; omega
            simp [this]
        · intro x hx
          rw [hfr] at hx
          split at hx
          · cases hx
          · cases hx
            exact ⟨HF.out.2.2.2.2.1, rfl⟩
  · rw [if_neg hp, decide_eq_false hp] at hm1
    have hfr : frG (bl s) = some (none, bl s) := by unfold frG; rw [if_neg hp]
    have HFR : Hid _ := hfr
    have HM : Hid _ := And.intro hm1 trivial
    have HF : Hid (W.heap[B]? = some (.cells (cs.setIfInBounds off v) t (0, 0))) := (by
      rw [hB]
      have e : cs.setIfInBounds off v = cs := by
        obtain ⟨hlt, hh⟩ := Array.getElem?_eq_some_iff.1 hv
        apply Array.ext
        · simp
        · intro i h1 h2
          rw [Array.getElem_setIfInBounds]
          split
          · rename_i q; subst q; exact hh.symm
          · rfl
      rw [e] : W.heap[B]? = some (.cells (cs.setIfInBounds off v) t (0, 0)))
    clear hm1 hp hB hv h1 hfr
    go_enter Tryz.func193, Tryz.ntmps193
    go_wp2_with (first | (go_at_call 156; refine Calls.mono HM.out.1 ?_; rintro e w' ⟨rfl, rfl⟩))
    go_ret2
    refine ⟨s, v, ?_, Nat.le_refl _, HF.out, Fro.refl _ _, ⟨0, .inr rfl⟩, fun x hx => by rw [HFR.out] at hx; cases hx; exact ⟨rfl, rfl⟩⟩
    rw [HFR.out]; rfl
end Go.Proofs.YtgaegajcejpmdaaGreatDoor.Dt
namespace Go.Proofs.YtgaegajcejpmdaaGreatDoor.Dt
open Go.RowKit
set_option linter.unusedVariables false

abbrev pt (b : Nat) : Value := .pointer (some ⟨b, 0, none⟩)
theorem en_mark : ∀ args w, (callFunc 187 args).run Tryz.prog w = .ok (.enter 187 args) w := enters_of Tryz.func187 (by kernel_rfl) rfl
theorem en_two : ∀ args w, (callFunc 190 args).run Tryz.prog w = .ok (.enter 190 args) w := enters_of Tryz.func190 (by kernel_rfl) rfl
theorem en_year : ∀ args w, (callFunc 188 args).run Tryz.prog w = .ok (.enter 188 args) w := enters_of Tryz.func188 (by kernel_rfl) rfl
theorem en_frac : ∀ args w, (callFunc 193 args).run Tryz.prog w = .ok (.enter 193 args) w := enters_of Tryz.func193 (by kernel_rfl) rfl
theorem en_num : ∀ args w, (callFunc 209 args).run Tryz.prog w = .ok (.enter 209 args) w := enters_of Tryz.func209 (by kernel_rfl) rfl
/-- A mark. -/
def gMk {σ : Type} (c : Int) : Gd σ := fun a l => if l.head? = some c then some (a, l.tail) else none
theorem fc_mark {σ : Type} {U : World} {O : Nat → Prop} {St : σ → World → Prop} (c : UInt8) (b : Nat) (h : U.heap[b]? = some (.cells #[.string ⟨#[c]⟩] 9 (0, 0))) (o : ¬ O b) : FC U O St (187, #[pt b]) (gMk (c.toNat : Int)) := by
  refine ⟨en_mark, fun W a s hW ha hs => ?_⟩
  refine Calls.mono (mark_c s c b W (hW.at h o) hs) ?_
  rintro e w' ⟨rfl, rfl⟩
  refine ⟨_, _, a, rfl, hW, ha, ?_, ?_⟩
  · split
    · rw [ByteArray.size_extract]; omega
    · exact Nat.le_refl _
  · unfold gMk
    by_cases hh : (bl s).head? = some (c.toNat : Int)
    · rw [if_pos hh]
      simp only [hh]
      simp [bl_ext, List.drop_one]
    · rw [if_neg hh]
      simp [hh]
/-- A cell of the state that a closure writes. -/
def CellSt {σ : Type} (St : σ → World → Prop) (B off : Nat) (set : σ → Int → σ) : Prop :=
  ∀ a W, St a W → ∃ (cs : Array Value) (t : TypeId) (v : Value), W.heap[B]? = some (.cells cs t (0, 0)) ∧ cs[off]? = some v ∧ ∀ (n : Int) W', -1000000000 < n → n < 1000000000 → W'.heap[B]? = some (.cells (cs.setIfInBounds off (.int .i64 n)) t (0, 0)) → Fro (fun k => k = B) W W' → St (set a n) W'
theorem fro_in {O : Nat → Prop} {U W W' : World} {B : Nat} (hW : Fro O U W) (h : Fro (fun k => k = B) W W') (hB : O B) : Fro O U W' := hW.trans' h (fun i _ e => by rw [e]; exact hB)
theorem fc_two {σ : Type} {U : World} {O : Nat → Prop} {St : σ → World → Prop} (b1 b2 b3 B off : Nat) (lo hi : Int) (set : σ → Int → σ)
    (h1 : U.heap[b1]? = some (.cells #[.pointer (some ⟨B, off, none⟩)] 167 (0, 0))) (h2 : U.heap[b2]? = some (.cells #[.int .i64 lo] 3 (0, 0))) (h3 : U.heap[b3]? = some (.cells #[.int .i64 hi] 3 (0, 0)))
    (o1 : ¬ O b1) (o2 : ¬ O b2) (o3 : ¬ O b3) (hB : O B) (hst : CellSt St B off set) :
    FC U O St (190, #[pt b1, pt b2, pt b3]) (fun a l => (inB lo hi l).map fun x => (set a x.1, x.2)) := by
  refine ⟨en_two, fun W a s hW ha hs => ?_⟩
  obtain ⟨cs, t, v, hc, hv, hn⟩ := hst a W ha
  have hk := dk_le 2 (bl s)
  have hvb := dvl_bd (l := bl s) (j := dk 2 (bl s)) hk.2.2 (by omega)
  refine Calls.mono (two_c s b1 b2 b3 B off lo hi W cs t v (hW.at h1 o1) (hW.at h2 o2) (hW.at h3 o3) hc hv (fun e => o1 (e ▸ hB)) (fun e => o2 (e ▸ hB)) (fun e => o3 (e ▸ hB)) hs) ?_
  rintro e w' ⟨rfl, hx, hf⟩
  refine ⟨_, _, set a (dvl ((bl s).take (dk 2 (bl s)))), rfl, fro_in hW hf hB, hn _ _ (by omega) (by omega) hx hf, ?_, ?_⟩
  · rw [ByteArray.size_extract]; omega
  · rw [two_in]
    cases twOk lo hi (bl s)
    · rfl
    · exact ⟨rfl, rfl, bl_suf s _⟩
theorem fc_num {σ : Type} {U : World} {O : Nat → Prop} {St : σ → World → Prop} (b1 B off : Nat) (set : σ → Int → σ)
    (h1 : U.heap[b1]? = some (.cells #[.pointer (some ⟨B, off, none⟩)] 167 (0, 0)))
    (o1 : ¬ O b1) (hB : O B) (hst : CellSt St B off set) :
    FC U O St (209, #[pt b1]) (fun a l => if 0 < dk 9 l then some (set a (dvl (l.take (dk 9 l))), l.drop (dk 9 l)) else none) := by
  refine ⟨en_num, fun W a s hW ha hs => ?_⟩
  obtain ⟨cs, t, v, hc, hv, hn⟩ := hst a W ha
  have hk := dk_le 9 (bl s)
  have hvb := dvl_bd (l := bl s) (j := dk 9 (bl s)) hk.2.2 (by omega)
  refine Calls.mono (number_c s b1 B off W cs t v (hW.at h1 o1) hc hv (fun e => o1 (e ▸ hB)) hs) ?_
  rintro e w' ⟨rfl, hx, hf⟩
  refine ⟨_, _, set a (dvl ((bl s).take (dk 9 (bl s)))), rfl, fro_in hW hf hB, hn _ _ (by omega) (by omega) hx hf, ?_, ?_⟩
  · rw [ByteArray.size_extract]; omega
  · by_cases h0 : 0 < dk 9 (bl s)
    · rw [if_pos h0]
      exact ⟨by simpa using h0, rfl, bl_suf s _⟩
    · rw [if_neg h0]
      simpa using h0
theorem fc_year {σ : Type} {U : World} {O : Nat → Prop} {St : σ → World → Prop} (b1 B off : Nat) (set : σ → Int → σ)
    (h1 : U.heap[b1]? = some (.cells #[.pointer (some ⟨B, off, none⟩)] 167 (0, 0)))
    (o1 : ¬ O b1) (hB : O B) (hst : CellSt St B off set) :
    FC U O St (188, #[pt b1]) (fun a l => if yrOk (yrK l) then some (set a (yrV l), (yrK l).drop (dk 9 (yrK l))) else none) := by
  refine ⟨en_year, fun W a s hW ha hs => ?_⟩
  obtain ⟨cs, t, v, hc, hv, hn⟩ := hst a W ha
  have hvb := dvl_bd (l := yrK (bl s)) (j := dk 9 (yrK (bl s))) (dk_le 9 _).2.2 (dk_le 9 _).1
  have hy : -1000000000 < yrV (bl s) ∧ yrV (bl s) < 1000000000 := by unfold yrV; split <;> omega
  refine Calls.mono (year_c s b1 B off W cs t v (hW.at h1 o1) hc hv (fun e => o1 (e ▸ hB)) hs) ?_
  rintro e w' ⟨t', rfl, hbt, hts, hx, hf⟩
  refine ⟨_, _, set a (yrV (bl s)), rfl, fro_in hW hf hB, hn _ _ hy.1 hy.2 hx hf, hts, ?_⟩
  cases hq : yrOk (yrK (bl s))
  · rfl
  · exact ⟨rfl, rfl, hbt⟩
theorem fc_frac {σ : Type} {U : World} {O : Nat → Prop} {St : σ → World → Prop} (b1 B off : Nat) (set : σ → Int → σ)
    (h1 : U.heap[b1]? = some (.cells #[.pointer (some ⟨B, off, none⟩)] 167 (0, 0)))
    (o1 : ¬ O b1) (hB : O B) (hst : CellSt St B off set)
    (hst0 : ∀ a W, St a W → ∀ W' (cs : Array Value) (t : TypeId) (v : Value), W.heap[B]? = some (.cells cs t (0, 0)) → cs[off]? = some v → W'.heap[B]? = some (.cells (cs.setIfInBounds off v) t (0, 0)) → Fro (fun k => k = B) W W' → St a W') :
    FC U O St (193, #[pt b1]) (fun a l => (frG l).map fun x => (match x.1 with | some n => set a n | none => a, x.2)) := by
  refine ⟨en_frac, fun W a s hW ha hs => ?_⟩
  obtain ⟨cs, t, v, hc, hv, hn⟩ := hst a W ha
  refine Calls.mono (frac_c s b1 B off W cs t v (hW.at h1 o1) hc hv (fun e => o1 (e ▸ hB)) hs) ?_
  rintro e w' ⟨t', u, rfl, hts, hx, hf, hu, hm⟩
  cases hg : frG (bl s) with
  | none =>
    obtain ⟨x, hu | hu⟩ := hu
    · obtain ⟨rfl, x0, x1⟩ := hu
      exact ⟨t', _, set a x, rfl, fro_in hW hf hB, hn _ _ (by omega) (by omega) hx hf, hts, by simp⟩
    · subst hu
      exact ⟨t', _, a, rfl, fro_in hW hf hB, hst0 a W ha w' cs t u hc hv hx hf, hts, by simp⟩
  | some x =>
    obtain ⟨hbt, hux⟩ := hm x hg
    obtain ⟨o, l1⟩ := x
    cases o with
    | none =>
      dsimp only at hux
      subst hux
      exact ⟨t', _, a, rfl, fro_in hW hf hB, hst0 a W ha w' cs t u hc hv hx hf, hts, by simp; exact hbt⟩
    | some n =>
      dsimp only at hux
      subst hux
      have hn2 : 0 ≤ n ∧ n < 1000000000 := by
        obtain ⟨y, hu | hu⟩ := hu
        · obtain ⟨e, y0, y1⟩ := hu
          cases e
          exact ⟨y0, y1⟩
        · unfold frG at hg
          split at hg
          · split at hg
            · cases hg
            · cases hg
              have hk := dk_le 9 (bl s).tail
              have hvb := dvl_in _ (dgs_take (l := (bl s).tail) (n := dk 9 (bl s).tail) hk.2.2).1
              rw [(dgs_take (l := (bl s).tail) (n := dk 9 (bl s).tail) hk.2.2).2] at hvb
              have p1 : (0 : Int) < 10 ^ (9 - dk 9 (bl s).tail) := Int.pow_pos (by omega)
              refine ⟨Int.mul_nonneg hvb.1 (by omega), ?_⟩
              have p2 := Int.mul_lt_mul_of_pos_right hvb.2 p1
              rw [← Int.pow_add, show dk 9 (bl s).tail + (9 - dk 9 (bl s).tail) = 9 by omega] at p2
              simpa using p2
          · cases hg
      exact ⟨t', _, set a n, rfl, fro_in hW hf hB, hn _ _ (by omega) (by omega) hx hf, hts, by simp; exact hbt⟩
/-! The makers. -/
theorem mk_mark (v : ByteArray) (w : World) : Calls Tryz.prog 159 #[.string v] w fun e w' => ∃ b, e = .returned (fnV (187, #[pt b])) ∧ w.heap.size ≤ b ∧ w'.heap[b]? = some (.cells #[.string v] 9 (0, 0)) ∧ Below w.heap.size w w' := by
  go_enter Tryz.func159, Tryz.ntmps159
  go_wp2_with fail
  go_ret
  exact ⟨w.heap.size, rfl, Nat.le_refl _, nw_heap _ _, (Below.refl _ _).alloc (Nat.le_refl _) _⟩
theorem box3' (w : World) (A B C : Obj) : (((w.alloc A).alloc B).alloc C).heap[w.heap.size]? = some A ∧ (((w.alloc A).alloc B).alloc C).heap[w.heap.size + 1]? = some B ∧ (((w.alloc A).alloc B).alloc C).heap[w.heap.size + 1 + 1]? = some C ∧ Below w.heap.size w (((w.alloc A).alloc B).alloc C) := by
  have hA := nw_heap w A
  have hB := nw_heap (w.alloc A) B
  have hC := nw_heap ((w.alloc A).alloc B) C
  have b1 : Below (w.alloc A).heap.size (w.alloc A) ((w.alloc A).alloc B) := (Below.refl _ _).alloc (Nat.le_refl _) _
  have b2 : Below ((w.alloc A).alloc B).heap.size ((w.alloc A).alloc B) (((w.alloc A).alloc B).alloc C) := (Below.refl _ _).alloc (Nat.le_refl _) _
  rw [sza] at hB
  rw [sza, sza] at hC
  refine ⟨(b2.block _ (by simp; omega)).trans ((b1.block _ (by simp)).trans hA), (b2.block _ (by simp)).trans hB, hC, ?_⟩
  exact (((Below.refl _ _).alloc (Nat.le_refl _) _).alloc (by simp) _).alloc (by simp; omega) _
theorem mk_two (p : Option Addr) (lo hi : Int) (w : World) : Calls Tryz.prog 161 #[.pointer p, .int .i64 lo, .int .i64 hi] w fun e w' => e = .returned (fnV (190, #[pt w.heap.size, pt (w.heap.size + 1), pt (w.heap.size + 1 + 1)])) ∧ (w'.heap[w.heap.size]? = some (.cells #[.pointer p] 167 (0, 0)) ∧ w'.heap[w.heap.size + 1]? = some (.cells #[.int .i64 lo] 3 (0, 0)) ∧ w'.heap[w.heap.size + 1 + 1]? = some (.cells #[.int .i64 hi] 3 (0, 0)) ∧ Below w.heap.size w w') := by
  have HB : Hid _ := box3' w (.cells #[.pointer p] 167) (.cells #[.int .i64 lo] 3) (.cells #[.int .i64 hi] 3)
  go_enter Tryz.func161, Tryz.ntmps161
  go_wp2_with fail
  go_ret
  exact ⟨rfl, HB.out⟩
theorem mk_year (p : Option Addr) (w : World) : Calls Tryz.prog 160 #[.pointer p] w fun e w' => ∃ b, e = .returned (fnV (188, #[pt b])) ∧ w.heap.size ≤ b ∧ w'.heap[b]? = some (.cells #[.pointer p] 167 (0, 0)) ∧ Below w.heap.size w w' := by
  go_enter Tryz.func160, Tryz.ntmps160
  go_wp2_with fail
  go_ret
  exact ⟨w.heap.size, rfl, Nat.le_refl _, nw_heap _ _, (Below.refl _ _).alloc (Nat.le_refl _) _⟩
theorem mk_day (p : Option Addr) (w : World) : Calls Tryz.prog 162 #[.pointer p] w fun e w' => ∃ b, e = .returned (fnV (191, #[pt b])) ∧ w.heap.size ≤ b ∧ w'.heap[b]? = some (.cells #[.pointer p] 143 (0, 0)) ∧ Below w.heap.size w w' := by
  go_enter Tryz.func162, Tryz.ntmps162
  go_wp2_with fail
  go_ret
  exact ⟨w.heap.size, rfl, Nat.le_refl _, nw_heap _ _, (Below.refl _ _).alloc (Nat.le_refl _) _⟩
theorem mk_clock (p : Option Addr) (w : World) : Calls Tryz.prog 163 #[.pointer p] w fun e w' => ∃ b, e = .returned (fnV (192, #[pt b])) ∧ w.heap.size ≤ b ∧ w'.heap[b]? = some (.cells #[.pointer p] 167 (0, 0)) ∧ Below w.heap.size w w' := by
  go_enter Tryz.func163, Tryz.ntmps163
  go_wp2_with fail
  go_ret
  exact ⟨w.heap.size, rfl, Nat.le_refl _, nw_heap _ _, (Below.refl _ _).alloc (Nat.le_refl _) _⟩
theorem mk_frac (p : Option Addr) (w : World) : Calls Tryz.prog 164 #[.pointer p] w fun e w' => ∃ b, e = .returned (fnV (193, #[pt b])) ∧ w.heap.size ≤ b ∧ w'.heap[b]? = some (.cells #[.pointer p] 167 (0, 0)) ∧ Below w.heap.size w w' := by
  go_enter Tryz.func164, Tryz.ntmps164
  go_wp2_with fail
  go_ret
  exact ⟨w.heap.size, rfl, Nat.le_refl _, nw_heap _ _, (Below.refl _ _).alloc (Nat.le_refl _) _⟩
theorem mk_zone (p : Option Addr) (w : World) : Calls Tryz.prog 165 #[.pointer p] w fun e w' => ∃ b, e = .returned (fnV (194, #[pt b])) ∧ w.heap.size ≤ b ∧ w'.heap[b]? = some (.cells #[.pointer p] 143 (0, 0)) ∧ Below w.heap.size w w' := by
  go_enter Tryz.func165, Tryz.ntmps165
  go_wp2_with fail
  go_ret
  exact ⟨w.heap.size, rfl, Nat.le_refl _, nw_heap _ _, (Below.refl _ _).alloc (Nat.le_refl _) _⟩
theorem mk_num (p : Option Addr) (w : World) : Calls Tryz.prog 185 #[.pointer p] w fun e w' => ∃ b, e = .returned (fnV (209, #[pt b])) ∧ w.heap.size ≤ b ∧ w'.heap[b]? = some (.cells #[.pointer p] 167 (0, 0)) ∧ Below w.heap.size w w' := by
  go_enter Tryz.func185, Tryz.ntmps185
  go_wp2_with fail
  go_ret
  exact ⟨w.heap.size, rfl, Nat.le_refl _, nw_heap _ _, (Below.refl _ _).alloc (Nat.le_refl _) _⟩
end Go.Proofs.YtgaegajcejpmdaaGreatDoor.Dt
namespace Go.Proofs.YtgaegajcejpmdaaGreatDoor.Dt
open Go.RowKit
set_option linter.unusedVariables false

set_option maxHeartbeats 1000000 in
theorem day_c (s : ByteArray) (b1 M : Nat) (W : World) (a : Mo) (h1 : W.heap[b1]? = some (.cells #[.pointer (some ⟨M, 0, none⟩)] 143 (0, 0))) (hM : W.heap[M]? = some (.cells (moC a) 36 (0, 0))) (n1 : M ≠ b1) (ha : MoB a) (hs : s.size ≤ maxLen) :
    Calls Tryz.prog 191 #[.string s, pt b1] W fun e W' => e = .returned (.tuple #[.string (s.extract (dk 2 (bl s)) s.size), .bool (twOk 1 (lenL (lnY a.y) a.m) (bl s))]) ∧ (W'.heap[M]? = some (.cells (moC { a with d := dvl ((bl s).take (dk 2 (bl s))) }) 36 (0, 0)) ∧ Fro (fun k => k = M) W W') := by
  obtain ⟨⟨k0, k1, k2, k3, k4, k5, k6, k7⟩, _⟩ := blk8 hM
  have c1 := cl1 h1
  have q1 := fun U : World => length_p a.y a.m U (by have := ha.y0; omega) (by have := ha.y1; omega) (by have := ha.m0; omega) (by have := ha.m1; omega)
  have q2 := fun U : World => mk_two (some ⟨M, 3, none⟩) 1 (lenL (lnY a.y) a.m) U
  have q3 := fun (U : World) (b1 b2 b3 : Nat) x1 x2 x3 (xM : U.heap[M]? = some (.cells (moC a) 36 (0, 0))) y1 y2 y3 => two_c s b1 b2 b3 M 3 1 (lenL (lnY a.y) a.m) U (moC a) 36 _ x1 x2 x3 xM rfl y1 y2 y3 hs
  generalize lenL (lnY a.y) a.m = LEN at *
  generalize twOk 1 LEN (bl s) = TW at *
  generalize dvl ((bl s).take (dk 2 (bl s))) = V at *
  generalize dk 2 (bl s) = K at *
  have HC : Hid _ := And.intro q1 (And.intro q2 q3)
  have HM : Hid _ := And.intro hM h1
  have HB : Hid (Below W.heap.size W W.drew) := below_drewN 1
  have hml : M < W.heap.size := lt_of hM
  clear q1 q2 q3 h1
  have g1 : W.drew.cell? ⟨b1, 0, none⟩ = some (.pointer (some ⟨M, 0, none⟩)) := c1
  have g2 : W.drew.cell? ⟨M, 1, none⟩ = some (.int .i64 a.y) := k1
  have g3 : W.drew.cell? ⟨M, 2, none⟩ = some (.int .i64 a.m) := k2
  clear hM k0 k1 k2 k3 k4 k5 k6 k7 c1
  go_enter Tryz.func191, Tryz.ntmps191
  go_wp2_with fail
  go_region_held3 (fun X => X.cell? ⟨b1, 0, none⟩ = some (.pointer (some ⟨M, 0, none⟩)) ∧ X.cell? ⟨M, 1, none⟩ = some (.int .i64 a.y) ∧ X.cell? ⟨M, 2, none⟩ = some (.int .i64 a.m)) (first | exact ⟨g1, g2, g3⟩ | fail) (first
    | (go_at_call 137; (with_reducible refine Calls.mono (HC.out.1 _) ?_); rintro e w1 ⟨rfl, hw1⟩; subst hw1)
    | (go_at_call 161; (with_reducible refine Calls.mono (HC.out.2.1 _) ?_); rintro e w2 ⟨rfl, x1, x2, x3, hb2⟩; have hsz := HB.out.size; have HX : Hid _ := And.intro x1 (And.intro x2 (And.intro x3 hsz)); have hbb := HB.out.trans (hb2.mono HB.out.size); clear HB g1 g2 g3 x1 x2 x3 hsz; have g1 := cl1 ((hbb.block _ (lt_of HM.out.2)).trans HM.out.2); have xM := (hbb.block _ (lt_of HM.out.1)).trans HM.out.1; obtain ⟨⟨_, g2, g3, _⟩, _⟩ := blk8 xM; have HB : Hid _ := And.intro hbb xM; clear hbb hb2 xM)
    | (go_at_call 190; (refine Calls.mono (HC.out.2.2 _ _ _ _ HX.out.1 HX.out.2.1 HX.out.2.2.1 HB.out.2 (by have := HX.out.2.2.2; omega) (by have := HX.out.2.2.2; omega) (by have := HX.out.2.2.2; omega)) ?_); rintro e w3 ⟨rfl, xM3, hf3⟩; have HE : Hid _ := And.intro xM3 ((Fro.below HB.out.1).trans' hf3 (fun i _ q => q)); clear g1 g2 g3; obtain ⟨⟨_, g2, g3, _⟩, _⟩ := blk8 (show w3.heap[M]? = some (.cells (moC { a with d := V }) 36 (0, 0)) from xM3); have g1 := cl1 (hf3.at ((HB.out.1.block _ (lt_of HM.out.2)).trans HM.out.2) (fun q => n1 q.symm)); clear xM3 hf3)
    | fail)
  all_goals
    go_wp2_with fail
    go_ret2
    exact ⟨rfl, HE.out⟩
end Go.Proofs.YtgaegajcejpmdaaGreatDoor.Dt
namespace Go.Proofs.YtgaegajcejpmdaaGreatDoor.Dt
open Go.RowKit
set_option linter.unusedVariables false

/-- What two, mark and the like have made. -/
structure TwB (w w' : World) (b1 b2 b3 : Nat) (p : Option Addr) (lo hi : Int) : Prop where
  l1 : w.heap.size ≤ b1
  l2 : w.heap.size ≤ b2
  l3 : w.heap.size ≤ b3
  x1 : w'.heap[b1]? = some (.cells #[.pointer p] 167 (0, 0))
  x2 : w'.heap[b2]? = some (.cells #[.int .i64 lo] 3 (0, 0))
  x3 : w'.heap[b3]? = some (.cells #[.int .i64 hi] 3 (0, 0))
  bl : Below w.heap.size w w'
structure MkB (w w' : World) (b : Nat) (v : Value) (t : TypeId) : Prop where
  l : w.heap.size ≤ b
  x : w'.heap[b]? = some (.cells #[v] t (0, 0))
  bl : Below w.heap.size w w'
theorem two_m (p : Option Addr) (lo hi : Int) (w : World) : Calls Tryz.prog 161 #[.pointer p, .int .i64 lo, .int .i64 hi] w fun e w' => ∃ b1 b2 b3, e = .returned (fnV (190, #[pt b1, pt b2, pt b3])) ∧ TwB w w' b1 b2 b3 p lo hi := by
  refine Calls.mono (mk_two p lo hi w) ?_
  rintro e w' ⟨rfl, x1, x2, x3, hb⟩
  exact ⟨_, _, _, rfl, Nat.le_refl _, by omega, by omega, x1, x2, x3, hb⟩
theorem mark_m (v : ByteArray) (w : World) : Calls Tryz.prog 159 #[.string v] w fun e w' => ∃ b, e = .returned (fnV (187, #[pt b])) ∧ MkB w w' b (.string v) 9 := by
  refine Calls.mono (mk_mark v w) ?_
  rintro e w' ⟨b, rfl, l, x, hb⟩
  exact ⟨b, rfl, l, x, hb⟩
theorem TwB.fc {w w' U : World} {b1 b2 b3 B off : Nat} {lo hi : Int} (h : TwB w w' b1 b2 b3 (some ⟨B, off, none⟩) lo hi) (hU : Below w'.heap.size w' U) {σ : Type} {O : Nat → Prop} {St : σ → World → Prop} (hO : ∀ i, O i → i < w.heap.size) (hB : O B) (set : σ → Int → σ) (hst : CellSt St B off set) :
    FC U O St (190, #[pt b1, pt b2, pt b3]) (fun a l => (inB lo hi l).map fun x => (set a x.1, x.2)) :=
  fc_two b1 b2 b3 B off lo hi set ((hU.block _ (lt_of h.x1)).trans h.x1) ((hU.block _ (lt_of h.x2)).trans h.x2) ((hU.block _ (lt_of h.x3)).trans h.x3) (fun q => by have := hO _ q; have := h.l1; omega) (fun q => by have := hO _ q; have := h.l2; omega) (fun q => by have := hO _ q; have := h.l3; omega) hB hst
theorem MkB.at {w w' U : World} {b : Nat} {v : Value} {t : TypeId} (h : MkB w w' b v t) (hU : Below w'.heap.size w' U) : U.heap[b]? = some (.cells #[v] t (0, 0)) := (hU.block _ (lt_of h.x)).trans h.x
theorem MkB.fc {w w' U : World} {b : Nat} {c : UInt8} (h : MkB w w' b (.string ⟨#[c]⟩) 9) (hU : Below w'.heap.size w' U) {σ : Type} {O : Nat → Prop} {St : σ → World → Prop} (hO : ∀ i, O i → i < w.heap.size) : FC U O St (187, #[pt b]) (gMk (c.toNat : Int)) :=
  fc_mark c b (h.at hU) (fun q => by have := hO _ q; have := h.l; omega)
theorem bl_step {a b c : World} (h : Below a.heap.size a b) (k : Below b.heap.size b c) : Below a.heap.size a c := h.trans (k.mono h.size)
abbrev T3 := Int × Int × Int
/-- Three numbers in boxes of their own. -/
structure St3 (H : Nat) (x : T3) (W : World) : Prop where
  a : W.heap[H]? = some (.cells #[.int .i64 x.1] 3 (0, 0))
  b : W.heap[H + 1]? = some (.cells #[.int .i64 x.2.1] 3 (0, 0))
  c : W.heap[H + 2]? = some (.cells #[.int .i64 x.2.2] 3 (0, 0))
  a0 : -1000000000 < x.1 ∧ x.1 < 1000000000
  b0 : -1000000000 < x.2.1 ∧ x.2.1 < 1000000000
  c0 : -1000000000 < x.2.2 ∧ x.2.2 < 1000000000
theorem St3.s1 (H : Nat) : CellSt (St3 H) H 0 (fun x n => (n, x.2)) := by
  intro x W h
  refine ⟨_, _, _, h.a, rfl, fun n W' n0 n1 hx hf => ⟨hx, hf.at h.b (by omega), hf.at h.c (by omega), ⟨n0, n1⟩, h.b0, h.c0⟩⟩
theorem St3.s2 (H : Nat) : CellSt (St3 H) (H + 1) 0 (fun x n => (x.1, n, x.2.2)) := by
  intro x W h
  refine ⟨_, _, _, h.b, rfl, fun n W' n0 n1 hx hf => ⟨hf.at h.a (by omega), hx, hf.at h.c (by omega), h.a0, ⟨n0, n1⟩, h.c0⟩⟩
theorem St3.s3 (H : Nat) : CellSt (St3 H) (H + 2) 0 (fun x n => (x.1, x.2.1, n)) := by
  intro x W h
  refine ⟨_, _, _, h.c, rfl, fun n W' n0 n1 hx hf => ⟨hf.at h.a (by omega), hf.at h.b (by omega), hx, h.a0, h.b0, ⟨n0, n1⟩⟩⟩
def g5 : List (Gd T3) := [fun a l => (inB 0 24 l).map fun x => ((x.1, a.2), x.2), gMk 58, fun a l => (inB 0 59 l).map fun x => ((a.1, x.1, a.2.2), x.2), gMk 58, fun a l => (inB 0 59 l).map fun x => ((a.1, a.2.1, x.1), x.2)]
/-- clockInto. -/
def ckG (l : List Int) : Option (Int × List Int) := (runG g5 (0, 0, 0) l).bind fun x => if 3600 * x.1.1 + 60 * x.1.2.1 + x.1.2.2 ≤ 86400 then some (3600 * x.1.1 + 60 * x.1.2.1 + x.1.2.2, x.2) else none
def ClP (s : ByteArray) (B off : Nat) (W : World) (cs : Array Value) (t : TypeId) (e : Ending) (W' : World) : Prop :=
  ∃ (t' : ByteArray) (n : Int), e = .returned (.tuple #[.string t', .bool (ckG (bl s)).isSome]) ∧ t'.size ≤ s.size ∧ W'.heap[B]? = some (.cells (cs.setIfInBounds off (.int .i64 n)) t (0, 0)) ∧ Fro (fun k => k = B) W W' ∧ (-10000000000000 < n ∧ n < 10000000000000) ∧ (∀ x, ckG (bl s) = some x → bl t' = x.2 ∧ n = x.1)
set_option maxHeartbeats 1000000 in
theorem clock_c (s : ByteArray) (b1 B off : Nat) (W : World) (cs : Array Value) (t : TypeId) (v : Value) (h1 : W.heap[b1]? = some (.cells #[.pointer (some ⟨B, off, none⟩)] 167 (0, 0)))
    (hB : W.heap[B]? = some (.cells cs t (0, 0))) (hv : cs[off]? = some v) (n1 : B ≠ b1) (hs : s.size ≤ maxLen) :
    Calls Tryz.prog 192 #[.string s, pt b1] W (ClP s B off W cs t) := by
  have HH : Hid _ := And.intro h1 (And.intro hB hv)
  clear h1 hB hv
  have H3 : Hid _ := box3' W (.cells #[.int .i64 0] 3) (.cells #[.int .i64 0] 3) (.cells #[.int .i64 0] 3)
  go_enter Tryz.func192, Tryz.ntmps192
  go_wp2_with fail
  obtain ⟨U0, hU0⟩ : ∃ U0, ((W.alloc (.cells #[.int .i64 0] 3)).alloc (.cells #[.int .i64 0] 3)).alloc (.cells #[.int .i64 0] 3) = U0 := ⟨_, rfl⟩
  rw [hU0] at H3 ⊢
  have hz0 : U0.heap.size = W.heap.size + 3 := by rw [← hU0]; simp
  clear hU0
  refine Calls.mono (two_m _ _ _ _) ?_
  rintro e w1 ⟨p1, p2, p3, rfl, h1⟩
  have H1 : Hid _ := And.intro h1 hz0
  clear h1 hz0
  go_wp2_with fail
  refine Calls.mono (mark_m _ _) ?_
  rintro e w2 ⟨p4, rfl, h2⟩
  have H2 : Hid _ := And.intro h2 trivial
  clear h2
  go_wp2_with fail
  refine Calls.mono (two_m _ _ _ _) ?_
  rintro e w3 ⟨p5, p6, p7, rfl, h3⟩
  have H5 : Hid _ := And.intro h3 trivial
  clear h3
  go_wp2_with fail
  refine Calls.mono (mark_m _ _) ?_
  rintro e w4 ⟨p8, rfl, h4⟩
  have H6 : Hid _ := And.intro h4 trivial
  clear h4
  go_wp2_with fail
  refine Calls.mono (two_m _ _ _ _) ?_
  rintro e w5 ⟨p9, p10, p11, rfl, h5⟩
  have H7 : Hid _ := And.intro h5 trivial
  clear h5
  go_wp2_with fail
  obtain ⟨U, hU⟩ : ∃ U, (w5.alloc (.cells #[fnV (190, #[pt p1, pt p2, pt p3]), fnV (187, #[pt p4]), fnV (190, #[pt p5, pt p6, pt p7]), fnV (187, #[pt p8]), fnV (190, #[pt p9, pt p10, pt p11])] 138)) = U := ⟨_, rfl⟩
  rw [hU]
  have u5 : Below w5.heap.size w5 U := by rw [← hU]; exact (Below.refl _ _).alloc (Nat.le_refl _) _
  have hUx : U.heap[w5.heap.size]? = some (.cells #[fnV (190, #[pt p1, pt p2, pt p3]), fnV (187, #[pt p4]), fnV (190, #[pt p5, pt p6, pt p7]), fnV (187, #[pt p8]), fnV (190, #[pt p9, pt p10, pt p11])] 138 (0, 0)) := by rw [← hU]; exact nw_heap _ _
  clear hU
  have u4 := bl_step H7.out.1.bl u5
  have u3 := bl_step H6.out.1.bl u4
  have u2 := bl_step H5.out.1.bl u3
  have u1 := bl_step H2.out.1.bl u2
  have u0 := bl_step H1.out.1.bl u1
  have uW : Below W.heap.size W U := H3.out.2.2.2.trans (u0.mono H3.out.2.2.2.size)
  have sz := H1.out.2
  have s1 := H1.out.1.bl.size
  have s2 := H2.out.1.bl.size
  have s3 := H5.out.1.bl.size
  have s4 := H6.out.1.bl.size
  have s5 := H7.out.1.bl.size
  have hfc : FCs U (fun k => k = W.heap.size ∨ k = W.heap.size + 1 ∨ k = W.heap.size + 2) (St3 W.heap.size) [(190, #[pt p1, pt p2, pt p3]), (187, #[pt p4]), (190, #[pt p5, pt p6, pt p7]), (187, #[pt p8]), (190, #[pt p9, pt p10, pt p11])] g5 :=
    .cons (H1.out.1.fc u1 (by omega) (by simp) _ (St3.s1 W.heap.size)) (.cons (H2.out.1.fc u2 (by omega)) (.cons (H5.out.1.fc u3 (by omega) (by simp) _ (St3.s2 W.heap.size)) (.cons (H6.out.1.fc u4 (by omega)) (.cons (H7.out.1.fc u5 (by omega) (by simp) _ (St3.s3 W.heap.size)) .nil))))
  have hst : St3 W.heap.size (0, 0, 0) U := ⟨(u0.block _ (lt_of H3.out.1)).trans H3.out.1, (u0.block _ (lt_of H3.out.2.1)).trans H3.out.2.1, (u0.block _ (lt_of H3.out.2.2.1)).trans H3.out.2.2.1, by simp, by simp, by simp⟩
  refine Calls.mono (read_p hfc w5.heap.size hUx (by omega) (by simp) U (0, 0, 0) s (Fro.refl _ _) hst hs) ?_
  rintro e w6 ⟨t', b, ⟨hh, mm, ss⟩, rfl, hfr, hst6, hts, hm⟩
  have fW : Fro (fun k => k = B) W w6 := (Fro.below uW).trans' hfr (fun i hi q => by omega)
  have H8 : Hid _ := And.intro hst6 (And.intro fW (And.intro hts hm))
  have bB : w6.heap[B]? = some (.cells cs t (0, 0)) := ((Fro.below (O := fun _ => False) uW).trans' hfr (fun i hi q => by omega)).at HH.out.2.1 (by simp)
  have b1x : w6.heap[b1]? = some (.cells #[.pointer (some ⟨B, off, none⟩)] 167 (0, 0)) := ((Fro.below (O := fun _ => False) uW).trans' hfr (fun i hi q => by omega)).at HH.out.1 (by simp)
  have hnlt : B < W.heap.size := lt_of HH.out.2.1
  obtain ⟨⟨a1, a2⟩, ⟨a3, a4⟩, a5, a6⟩ := And.intro hst6.a0 (And.intro hst6.b0 hst6.c0)
  dsimp only at a1 a2 a3 a4 a5 a6
  have ca := cl1 hst6.a
  have cb := cl1 hst6.b
  have cc := cl1 hst6.c
  have c1 := cl1 b1x
  obtain ⟨cB, fB⟩ := cl_at bB HH.out.2.2
  have H9 : Hid _ := And.intro bB b1x
  clear hst6 fW hts hm bB b1x u0 u1 u2 u3 u4 u5 uW hfc hst hUx hfr H1 H2 H5 H6 H7 H3 sz s1 s2 s3 s4 s5
  go_wp2_with fail
  obtain ⟨N, hN⟩ : ∃ N, 3600 * hh + 60 * mm + ss = N := ⟨_, rfl⟩
  rw [hN]
  have hNb : -10000000000000 < N ∧ N < 10000000000000 := by omega
  have c1' : (w6.setCell ⟨B, off, none⟩ (.int .i64 N)).cell? ⟨b1, 0, none⟩ = some (.pointer (some ⟨B, off, none⟩)) := cl1 ((Below.heap_setCell _ _ _ _ (by simpa using n1.symm)).trans H9.out.2)
  have hx7 := bset (i := off) H9.out.1 (.int .i64 N)
  have cB' := (cl_at hx7 (set_get HH.out.2.2 _)).1
  have f7 : Fro (fun k => k = B) W (w6.setCell ⟨B, off, none⟩ (.int .i64 N)) := H8.out.2.1.set (X := B) (i := off) (.inl rfl) _
  have hR : ∀ y, ckG (bl s) = y → (y = if b = true ∧ N ≤ 86400 then some (N, bl t') else none) := by
    intro y hy
    rw [← hy]
    have hm := H8.out.2.2.2
    unfold ckG
    cases hg : runG g5 (0, 0, 0) (bl s) with
    | none =>
      rw [hg] at hm
      rw [if_neg (by rw [hm.1]; simp)]
      rfl
    | some x =>
      rw [hg] at hm
      obtain ⟨rfl, hx, hbl⟩ := hm
      obtain ⟨x1, x2⟩ := x
      dsimp only at hx
      subst hx
      rw [Option.bind_some]
      dsimp only at *
      rw [hN, hbl]
      simp
  have HR : Hid _ := And.intro hR (And.intro hx7 (And.intro f7 (And.intro hNb H8.out.2.2.1)))
  generalize (w6.setCell ⟨B, off, none⟩ (.int .i64 N)) = W7 at *
  clear hR hx7 f7 hNb ca cb cc c1 cB fB H8 H9 hN
  cases b
  · go_quiet (fail)
    go_wp2_with fail
    go_ret2
    have e1 := HR.out.1 _ rfl
    rw [if_neg (by simp)] at e1
    refine ⟨t', N, by rw [e1]; rfl, HR.out.2.2.2.2, HR.out.2.1, HR.out.2.2.1.drewN _, HR.out.2.2.2.1, fun x hx => ?_⟩
    rw [e1] at hx
    cases hx
  · by_cases hq : N ≤ 86400
    · go_quiet (fail)
      go_wp2_with fail
      go_ret2
      have e1 := HR.out.1 _ rfl
      rw [if_pos (by simp [hq])] at e1
      refine ⟨t', N, by rw [e1]; rfl, HR.out.2.2.2.2, HR.out.2.1, HR.out.2.2.1.drewN _, HR.out.2.2.2.1, fun x hx => ?_⟩
      rw [e1] at hx
      cases hx
      exact ⟨rfl, rfl⟩
    · have hq' : decide (N ≤ 86400) = false := by simpa using hq
      go_quiet (fail)
      go_wp2_with fail
      go_ret2
      have e1 := HR.out.1 _ rfl
      rw [if_neg (by simp [hq])] at e1
      refine ⟨t', N, by rw [e1]; rfl, HR.out.2.2.2.2, HR.out.2.1, HR.out.2.2.1.drewN _, HR.out.2.2.2.1, fun x hx => ?_⟩
      rw [e1] at hx
      cases hx
end Go.Proofs.YtgaegajcejpmdaaGreatDoor.Dt
namespace Go.Proofs.YtgaegajcejpmdaaGreatDoor.Dt
open Go.RowKit
set_option linter.unusedVariables false

abbrev T2 := Int × Int
structure St2 (H : Nat) (x : T2) (W : World) : Prop where
  a : W.heap[H]? = some (.cells #[.int .i64 x.1] 3 (0, 0))
  b : W.heap[H + 1]? = some (.cells #[.int .i64 x.2] 3 (0, 0))
  a0 : -1000000000 < x.1 ∧ x.1 < 1000000000
  b0 : -1000000000 < x.2 ∧ x.2 < 1000000000
theorem St2.s1 (H : Nat) : CellSt (St2 H) H 0 (fun x n => (n, x.2)) := by
  intro x W h
  refine ⟨_, _, _, h.a, rfl, fun n W' n0 n1 hx hf => ⟨hx, hf.at h.b (by omega), ⟨n0, n1⟩, h.b0⟩⟩
theorem St2.s2 (H : Nat) : CellSt (St2 H) (H + 1) 0 (fun x n => (x.1, n)) := by
  intro x W h
  refine ⟨_, _, _, h.b, rfl, fun n W' n0 n1 hx hf => ⟨hf.at h.a (by omega), hx, h.a0, ⟨n0, n1⟩⟩⟩
def g3 : List (Gd T2) := [fun a l => (inB 0 14 l).map fun x => ((x.1, a.2), x.2), gMk 58, fun a l => (inB 0 59 l).map fun x => ((a.1, x.1), x.2)]
/-- zoneInto. -/
def zR (l : List Int) : Option Int := (runG g3 (0, 0) l.tail).bind fun x => if x.2 = [] ∧ 60 * x.1.1 + x.1.2 ≤ 840 then some (60 * x.1.1 + x.1.2) else none
def gZn (a : Mo) (l : List Int) : Option Mo :=
  if l = [] then some a else if l = [90] then some { a with hz := true }
  else (zR l).bind fun z => if l.head? = some 45 then some { a with hz := true, z := -z } else if l.head? = some 43 then some { a with hz := true, z := z } else none
def ZnP (s : ByteArray) (M : Nat) (W : World) (a : Mo) (e : Ending) (W' : World) : Prop :=
  ∃ (a' : Mo) (b : Bool), e = .returned (.tuple #[.string ⟨#[]⟩, .bool b]) ∧ W'.heap[M]? = some (.cells (moC a') 36 (0, 0)) ∧ Fro (fun k => k = M) W W' ∧ (∃ h z, a' = { a with hz := h, z := z }) ∧ (match gZn a (bl s) with | some x => b = true ∧ a' = x | none => b = false)
theorem moC_hz (a : Mo) (h : Bool) : (moC a).setIfInBounds 6 (.bool h) = moC { a with hz := h } := rfl
theorem moC_z (a : Mo) (z : Int) : (moC a).setIfInBounds 7 (.int .i64 z) = moC { a with z := z } := rfl
theorem tl_ne {s : ByteArray} {c : UInt8} (h : bl s ≠ [(c.toNat : Int)]) : (s.toList == [c]) = false := by
  have : ¬ s.toList = [c] := fun q => h (by
    unfold bl
    rw [← Lib.toList_data, q]
    rfl)
  simpa using this
theorem tl_eq1 {s : ByteArray} {c : UInt8} (h : bl s = [(c.toNat : Int)]) : (s.toList == [c]) = true := by
  have h1 : s = ⟨#[c]⟩ := bl_inj (by rw [h]; rfl)
  rw [h1]
  have : (⟨#[c]⟩ : ByteArray).toList = [c] := Lib.toList_data _
  rw [this]
  simp
theorem St2.below {H : Nat} {x : T2} {W U : World} (h : St2 H x W) (hb : Below W.heap.size W U) : St2 H x U := ⟨(hb.block _ (lt_of h.a)).trans h.a, (hb.block _ (lt_of h.b)).trans h.b, h.a0, h.b0⟩
/-- The zone's own whole. -/
theorem zone_w {V0 w1 w2 w3 : World} {p1 p2 p3 p4 p5 p6 p7 H : Nat} (h1 : TwB V0 w1 p1 p2 p3 (some ⟨H, 0, none⟩) 0 14) (h2 : MkB w1 w2 p4 (.string ⟨#[58]⟩) 9) (h3 : TwB w2 w3 p5 p6 p7 (some ⟨H + 1, 0, none⟩) 0 59) (hst : St2 H (0, 0) V0) (hH : H + 2 ≤ V0.heap.size) (r : ByteArray) (hr : r.size ≤ maxLen) :
    Calls Tryz.prog 113 #[.string r, .slice (some ⟨w3.heap.size, 0, none⟩) 3 3] (w3.alloc (.cells #[fnV (190, #[pt p1, pt p2, pt p3]), fnV (187, #[pt p4]), fnV (190, #[pt p5, pt p6, pt p7])] 138)) fun e w6 => ∃ (b : Bool) (hh mm : Int), e = .returned (.bool b) ∧ (Fro (fun k => k = H ∨ k = H + 1) V0 w6 ∧ St2 H (hh, mm) w6 ∧ (b = true → runG g3 (0, 0) (bl r) = some ((hh, mm), [])) ∧ (b = false → ∀ x, runG g3 (0, 0) (bl r) = some x → x.2 ≠ [])) := by
  obtain ⟨U, hU⟩ : ∃ U, (w3.alloc (.cells #[fnV (190, #[pt p1, pt p2, pt p3]), fnV (187, #[pt p4]), fnV (190, #[pt p5, pt p6, pt p7])] 138)) = U := ⟨_, rfl⟩
  rw [hU]
  have u3 : Below w3.heap.size w3 U := by rw [← hU]; exact (Below.refl _ _).alloc (Nat.le_refl _) _
  have hUx : U.heap[w3.heap.size]? = some (.cells #[fnV (190, #[pt p1, pt p2, pt p3]), fnV (187, #[pt p4]), fnV (190, #[pt p5, pt p6, pt p7])] 138 (0, 0)) := by rw [← hU]; exact nw_heap _ _
  clear hU
  have u2 := bl_step h3.bl u3
  have u1 := bl_step h2.bl u2
  have u0 := bl_step h1.bl u1
  have s1 := h1.bl.size
  have s2 := h2.bl.size
  have s3 := h3.bl.size
  have hfc : FCs U (fun k => k = H ∨ k = H + 1) (St2 H) [(190, #[pt p1, pt p2, pt p3]), (187, #[pt p4]), (190, #[pt p5, pt p6, pt p7])] g3 :=
    .cons (h1.fc u1 (by omega) (by simp) _ (St2.s1 H)) (.cons (h2.fc u2 (by omega)) (.cons (h3.fc u3 (by omega) (by simp) _ (St2.s2 H)) .nil))
  refine Calls.mono (whole_p hfc w3.heap.size hUx (by omega) (by simp) U (0, 0) r (Fro.refl _ _) (hst.below u0) hr) ?_
  rintro e w6 ⟨b, ⟨hh, mm⟩, rfl, hfr, hst6, hT, hF⟩
  exact ⟨b, hh, mm, rfl, (Fro.below u0).trans' hfr (fun i hi q => q), hst6, hT, hF⟩
set_option maxHeartbeats 1000000 in
theorem zone_c (s : ByteArray) (b1 M : Nat) (W : World) (a : Mo) (h1 : W.heap[b1]? = some (.cells #[.pointer (some ⟨M, 0, none⟩)] 143 (0, 0))) (hM : W.heap[M]? = some (.cells (moC a) 36 (0, 0))) (n1 : M ≠ b1) (hs : s.size ≤ maxLen) :
    Calls Tryz.prog 194 #[.string s, pt b1] W (ZnP s M W a) := by
  by_cases hs0 : s.size = 0
  · have hq := tl_ee hs0
    have hg : gZn a (bl s) = some a := by unfold gZn; rw [if_pos (bl_nil hs0)]
    have HH : Hid _ := And.intro hM hg
    clear hM hg h1 hs0
    go_enter Tryz.func194, Tryz.ntmps194
    go_wp2_with fail
    go_ret2
    refine ⟨a, true, rfl, HH.out.1, Fro.refl _ _, ⟨a.hz, a.z, rfl⟩, ?_⟩
    rw [HH.out.2]
    exact ⟨rfl, rfl⟩
  have hsp : 0 < s.size := by omega
  have hq0 := tl_nn hsp
  have hne : ¬ bl s = [] := fun q => by have := bl_len s; rw [q] at this; simp at this; omega
  obtain ⟨⟨k0, k1, k2, k3, k4, k5, k6, k7⟩, f0, f1, f2, f3, f4, f5, f6, f7⟩ := blk8 hM
  have c1 := cl1 h1
  have hM1 := bset (i := 6) hM (.bool true)
  rw [moC_hz] at hM1
  have fr1 : Fro (fun k => k = M) W (W.setCell ⟨M, 6, none⟩ (.bool true)) := fro_set W M 6 _
  have h11 : (W.setCell ⟨M, 6, none⟩ (.bool true)).heap[b1]? = some (.cells #[.pointer (some ⟨M, 0, none⟩)] 143 (0, 0)) := (Below.heap_setCell _ _ _ _ (by simpa using n1.symm)).trans h1
  by_cases hz : bl s = [90]
  · have hqz : (s.toList == [90]) = true := tl_eq1 (c := 90) hz
    have hg : gZn a (bl s) = some { a with hz := true } := by unfold gZn; rw [if_neg hne, if_pos hz]
    have HH : Hid _ := And.intro hM1 (And.intro fr1 hg)
    clear hM1 fr1 hg hM h1 hne hz h11
    go_enter Tryz.func194, Tryz.ntmps194
    go_wp2_with fail
    go_ret2
    refine ⟨{ a with hz := true }, true, rfl, HH.out.1, HH.out.2.1, ⟨true, a.z, rfl⟩, ?_⟩
    rw [HH.out.2.2]
    exact ⟨rfl, rfl⟩
  have hqz : (s.toList == [90]) = false := tl_ne (c := 90) hz
  have hg : gZn a (bl s) = (zR (bl s)).bind fun z => if (bl s).head? = some 45 then some { a with hz := true, z := -z } else if (bl s).head? = some 43 then some { a with hz := true, z := z } else none := by unfold gZn; rw [if_neg hne, if_neg hz]
  have hhd := head_get s hsp
  rw [hhd] at hg
  have HG : Hid _ := hg
  have HM1 : Hid _ := And.intro hM1 (And.intro fr1 h11)
  have hl1 : (1 : Int) ≤ (s.size : Int) := by omega
  clear hM1 fr1 hg hM h1 hne hz h11 hhd
  have hmx := hs
  unfold maxLen at hs
  go_enter Tryz.func194, Tryz.ntmps194
  go_wp2_with fail
  have hzW : (W.setCell ⟨M, 6, none⟩ (.bool true)).heap.size = W.heap.size := by simp [World.setCell]
  have hbx := box2 (W.setCell ⟨M, 6, none⟩ (.bool true)) (.cells #[.int .i64 0] 3) (.cells #[.int .i64 0] 3)
  obtain ⟨U0, hU0⟩ : ∃ U0, ((W.setCell ⟨M, 6, none⟩ (.bool true)).alloc (.cells #[.int .i64 0] 3)).alloc (.cells #[.int .i64 0] 3) = U0 := ⟨_, rfl⟩
  have hsU : U0.heap.size = W.heap.size + 2 := by rw [← hU0]; simp
  rw [hU0, hzW] at hbx
  rw [hU0]
  obtain ⟨bx1, bx2, bx3⟩ := hbx
  have hst0 : St2 W.heap.size (0, 0) U0.drew := ⟨bx1, bx2, by simp, by simp⟩
  have hsD : W.heap.size + 2 ≤ U0.drew.heap.size := by show W.heap.size + 2 ≤ U0.heap.size; omega
  have hrs : (s.extract 1 s.size).size ≤ maxLen := by rw [ByteArray.size_extract]; omega
  have xM : U0.drew.heap[M]? = some (.cells (moC { a with hz := true }) 36 (0, 0)) := (bx3.block _ (by rw [← hzW]; exact lt_of HM1.out.1)).trans HM1.out.1
  have xb : U0.drew.heap[b1]? = some (.cells #[.pointer (some ⟨M, 0, none⟩)] 143 (0, 0)) := (bx3.block _ (by rw [← hzW]; exact lt_of HM1.out.2.2)).trans HM1.out.2.2
  have hMlt : M < W.heap.size := by rw [← hzW]; exact lt_of HM1.out.1
  have hblt : b1 < W.heap.size := by rw [← hzW]; exact lt_of HM1.out.2.2
  have frU : Fro (fun k => k = M) W U0.drew := HM1.out.2.1.trans' (Fro.below (O := fun _ => False) (show Below (W.setCell ⟨M, 6, none⟩ (.bool true)).heap.size (W.setCell ⟨M, 6, none⟩ (.bool true)) U0.drew by rw [hzW]; exact bdrewN bx3 1)) (fun _ _ q => q.elim)
  have HZ : Hid _ := And.intro hst0 (And.intro hsD (And.intro hrs (And.intro xM (And.intro xb (And.intro frU (And.intro hMlt hblt))))))
  clear hU0 hsU hzW bx1 bx2 bx3 hst0 hsD hrs xM xb frU hMlt hblt HM1 k0 k1 k2 k3 k4 k5 k6 k7 f0 f1 f2 f3 f4 f5 f6 f7 c1
  go_region_held3 (fun _ => True) (trivial) (first
    | (go_at_call 161; (with_reducible refine Calls.mono (two_m (some ⟨W.heap.size, 0, none⟩) 0 14 _) ?_); rintro e w1 ⟨p1, p2, p3, rfl, h1⟩; have H1 : Hid _ := And.intro h1 trivial; clear h1)
    | (go_at_call 159; (with_reducible refine Calls.mono (mark_m _ _) ?_); rintro e w2 ⟨p4, rfl, h2⟩; have H2 : Hid _ := And.intro h2 trivial; clear h2)
    | (go_at_call 161; (with_reducible refine Calls.mono (two_m (some ⟨W.heap.size + 1, 0, none⟩) 0 59 _) ?_); rintro e w3 ⟨p5, p6, p7, rfl, h3⟩; have H3 : Hid _ := And.intro h3 trivial; clear h3)
    | (go_at_call 113; (refine Calls.mono (zone_w H1.out.1 H2.out.1 H3.out.1 HZ.out.1 HZ.out.2.1 _ HZ.out.2.2.1) ?_); rintro e w6 ⟨b, hh, mm, rfl, h8⟩; have H8 : Hid _ := And.intro h8 trivial; clear h8)
    | fail)
  obtain ⟨hfr, hst, hT, hF⟩ := H8.out.1
  have fr6 : Fro (fun k => k = M) W w6 := HZ.out.2.2.2.2.2.1.trans' hfr (fun i hi q => by omega)
  have x6 : w6.heap[M]? = some (.cells (moC { a with hz := true }) 36 (0, 0)) := hfr.at HZ.out.2.2.2.1 (by have := HZ.out.2.2.2.2.2.2.1; omega)
  have y6 : w6.heap[b1]? = some (.cells #[.pointer (some ⟨M, 0, none⟩)] 143 (0, 0)) := hfr.at HZ.out.2.2.2.2.1 (by have := HZ.out.2.2.2.2.2.2.2; omega)
  obtain ⟨⟨a1, a2⟩, a3, a4⟩ := And.intro hst.a0 hst.b0
  dsimp only at a1 a2 a3 a4
  have ca := cl1 hst.a
  have cb := cl1 hst.b
  have c1 := cl1 y6
  obtain ⟨⟨k0, k1, k2, k3, k4, k5, k6, k7⟩, f0, f1, f2, f3, f4, f5, f6, f7⟩ := blk8 x6
  obtain ⟨N, hN⟩ : ∃ N, 60 * hh + mm = N := ⟨_, rfl⟩
  have hzr : zR (bl s) = if b = true ∧ N ≤ 840 then some N else none := by
    unfold zR
    rw [bl_ext, List.drop_one] at hT hF
    cases b with
    | false =>
      rw [if_neg (by simp)]
      cases hr : runG g3 (0, 0) (bl s).tail with
      | none => rfl
      | some x =>
        rw [Option.bind_some, if_neg (fun q => hF rfl x hr q.1)]
    | true =>
      rw [hT rfl, Option.bind_some]
      dsimp only
      rw [hN]
      simp
  have x7 := bset (i := 7) x6 (.int .i64 N)
  rw [moC_z] at x7
  have y7 : (w6.setCell ⟨M, 7, none⟩ (.int .i64 N)).heap[b1]? = some (.cells #[.pointer (some ⟨M, 0, none⟩)] 143 (0, 0)) := (Below.heap_setCell _ _ _ _ (by simpa using n1.symm)).trans y6
  have fr7 : Fro (fun k => k = M) W (w6.setCell ⟨M, 7, none⟩ (.int .i64 N)) := fr6.set (X := M) (i := 7) (.inl rfl) _
  have HE : Hid _ := And.intro x7 (And.intro y7 (And.intro fr7 hzr))
  have hNb : -100000000000 < N ∧ N < 100000000000 := by omega
  obtain ⟨hNb0, hNb1⟩ := hNb
  have HN : Hid _ := hN
  clear x7 y7 fr7 hzr x6 y6 fr6 hfr hst hT hF H1 H2 H3 H8 HZ
  have hd0 := head_get s hsp
  clear hd0
  have hzr0 : b = false → zR (bl s) = none := fun q => by rw [HE.out.2.2.2, if_neg (by rw [q]; simp)]
  have hzr1 : b = true → 840 < N → zR (bl s) = none := fun q p => by rw [HE.out.2.2.2, if_neg (by omega)]
  have hzr2 : b = true → ¬ 840 < N → zR (bl s) = some N := fun q p => by rw [HE.out.2.2.2, if_pos ⟨q, by omega⟩]
  cases b
  · have HR : Hid _ := hzr0 rfl
    clear hzr0 hzr1 hzr2
    go_wp2_with fail
    go_ret2
    refine ⟨{ a with hz := true, z := N }, false, rfl, HE.out.1, HE.out.2.2.1, ⟨true, N, rfl⟩, ?_⟩
    rw [HG.out, HR.out]
    rfl
  · by_cases h840 : 840 < N
    · have HR : Hid _ := hzr1 rfl h840
      clear hzr0 hzr1 hzr2
      go_wp2_with fail
      go_ret2
      refine ⟨{ a with hz := true, z := N }, false, rfl, HE.out.1, HE.out.2.2.1, ⟨true, N, rfl⟩, ?_⟩
      rw [HG.out, HR.out]
      rfl
    · have HR : Hid _ := hzr2 rfl h840
      clear hzr0 hzr1 hzr2
      by_cases h45 : ((s[0]'hsp).toNat : Int) = 45
      · have hx8 := bset (i := 7) HE.out.1 (.int .i64 (-N))
        rw [moC_z] at hx8
        have f8 := HE.out.2.2.1.set (X := M) (i := 7) (.inl rfl) (.int .i64 (-N))
        have g1 := cl1 HE.out.2.1
        obtain ⟨⟨_, _, _, _, _, _, _, g7⟩, _, _, _, _, _, _, _, t7⟩ := blk8 HE.out.1
        have HX : Hid _ := And.intro hx8 f8
        clear hx8 f8
        go_wp2_with fail
        clear ca cb c1 k0 k1 k2 k3 k4 k5 k6 k7 f0 f1 f2 f3 f4 f5 f6 f7
        generalize (w6.setCell ⟨M, 7, none⟩ (.int .i64 N)) = W7 at *
        go_region
        all_goals
          go_wp2_with fail
          go_ret2
          refine ⟨{ a with hz := true, z := -N }, true, rfl, HX.out.1, HX.out.2.drewN 1, ⟨true, -N, rfl⟩, ?_⟩
          rw [HG.out, HR.out, Option.bind_some, if_pos (by rw [h45])]
          exact ⟨rfl, rfl⟩
      · by_cases h43 : ((s[0]'hsp).toNat : Int) = 43
        · have h45' : (((s[0]'hsp).toNat : Int) == 45) = false := by simpa using h45
          go_wp2_with fail
          go_ret2
          refine ⟨{ a with hz := true, z := N }, true, rfl, HE.out.1, HE.out.2.2.1, ⟨true, N, rfl⟩, ?_⟩
          rw [HG.out, HR.out, Option.bind_some, if_neg (by simpa using h45), if_pos (by rw [h43])]
          exact ⟨rfl, rfl⟩
        · have h45' : (((s[0]'hsp).toNat : Int) == 45) = false := by simpa using h45
          have h43' : (((s[0]'hsp).toNat : Int) == 43) = false := by simpa using h43
          go_wp2_with fail
          go_ret2
          refine ⟨{ a with hz := true, z := N }, false, rfl, HE.out.1, HE.out.2.2.1, ⟨true, N, rfl⟩, ?_⟩
          rw [HG.out, HR.out, Option.bind_some, if_neg (by simpa using h45), if_neg (by simpa using h43)]
end Go.Proofs.YtgaegajcejpmdaaGreatDoor.Dt
namespace Go.Proofs.YtgaegajcejpmdaaGreatDoor.Dt
open Go.RowKit
set_option linter.unusedVariables false

structure StM (M : Nat) (a : Mo) (W : World) : Prop where
  x : W.heap[M]? = some (.cells (moC a) 36 (0, 0))
  b : MoB a
theorem StM.sy (M : Nat) : CellSt (StM M) M 1 (fun a n => { a with y := n }) := by
  intro a W h
  obtain ⟨hx, ⟨y0, y1, m0, m1, d0, d1, s0, s1, n0, n1⟩⟩ := h
  refine ⟨_, _, _, hx, rfl, fun n W' q0 q1 hx' hf => ⟨hx', ⟨by dsimp only; omega, by dsimp only; omega, m0, m1, d0, d1, s0, s1, n0, n1⟩⟩⟩
theorem StM.sm (M : Nat) : CellSt (StM M) M 2 (fun a n => { a with m := n }) := by
  intro a W h
  obtain ⟨hx, ⟨y0, y1, m0, m1, d0, d1, s0, s1, n0, n1⟩⟩ := h
  refine ⟨_, _, _, hx, rfl, fun n W' q0 q1 hx' hf => ⟨hx', ⟨y0, y1, by dsimp only; omega, by dsimp only; omega, d0, d1, s0, s1, n0, n1⟩⟩⟩
theorem StM.sn (M : Nat) : CellSt (StM M) M 5 (fun a n => { a with n := n }) := by
  intro a W h
  obtain ⟨hx, ⟨y0, y1, m0, m1, d0, d1, s0, s1, n0, n1⟩⟩ := h
  refine ⟨_, _, _, hx, rfl, fun n W' q0 q1 hx' hf => ⟨hx', ⟨y0, y1, m0, m1, d0, d1, s0, s1, by dsimp only; omega, by dsimp only; omega⟩⟩⟩
theorem set_same {cs : Array Value} {i : Nat} {v : Value} (hv : cs[i]? = some v) : cs.setIfInBounds i v = cs := by
  obtain ⟨hlt, hh⟩ := Array.getElem?_eq_some_iff.1 hv
  apply Array.ext
  · simp
  · intro j h1 h2
    rw [Array.getElem_setIfInBounds]
    split
    · rename_i q; subst q; exact hh.symm
    · rfl
theorem en_day : ∀ args w, (callFunc 191 args).run Tryz.prog w = .ok (.enter 191 args) w := enters_of Tryz.func191 (by kernel_rfl) rfl
theorem en_clock : ∀ args w, (callFunc 192 args).run Tryz.prog w = .ok (.enter 192 args) w := enters_of Tryz.func192 (by kernel_rfl) rfl
theorem en_zone : ∀ args w, (callFunc 194 args).run Tryz.prog w = .ok (.enter 194 args) w := enters_of Tryz.func194 (by kernel_rfl) rfl
def gYr : Gd Mo := fun a l => if yrOk (yrK l) then some ({ a with y := yrV l }, (yrK l).drop (dk 9 (yrK l))) else none
def gMo : Gd Mo := fun a l => (inB 1 12 l).map fun x => ({ a with m := x.1 }, x.2)
def gDy : Gd Mo := fun a l => (inB 1 (lenL (lnY a.y) a.m) l).map fun x => ({ a with d := x.1 }, x.2)
def gCl : Gd Mo := fun a l => (ckG l).map fun x => ({ a with s := x.1 }, x.2)
def gFr : Gd Mo := fun a l => (frG l).map fun x => (match x.1 with | some n => { a with n := n } | none => a, x.2)
def gZ : Gd Mo := fun a l => (gZn a l).map fun x => (x, [])
theorem fc_day {U : World} {M b1 : Nat} (h1 : U.heap[b1]? = some (.cells #[.pointer (some ⟨M, 0, none⟩)] 143 (0, 0))) (n1 : M ≠ b1) : FC U (fun k => k = M) (StM M) (191, #[pt b1]) gDy := by
  refine ⟨en_day, fun W a s hW ha hs => ?_⟩
  have hk := dk_le 2 (bl s)
  have hvb := dvl_bd (l := bl s) (j := dk 2 (bl s)) hk.2.2 (by omega)
  refine Calls.mono (day_c s b1 M W a (hW.at h1 (fun q => n1 q.symm)) ha.x n1 ha.b hs) ?_
  rintro e w' ⟨rfl, hx, hf⟩
  obtain ⟨hx0, ⟨y0, y1, m0, m1, d0, d1, s0, s1, n0, n1'⟩⟩ := ha
  refine ⟨_, _, _, rfl, fro_in hW hf rfl, ⟨hx, ⟨y0, y1, m0, m1, by dsimp only; omega, by dsimp only; omega, s0, s1, n0, n1'⟩⟩, ?_, ?_⟩
  · rw [ByteArray.size_extract]; omega
  · unfold gDy
    rw [two_in]
    cases twOk 1 (lenL (lnY a.y) a.m) (bl s)
    · rfl
    · exact ⟨rfl, rfl, bl_suf s _⟩
theorem fc_clock {U : World} {M b1 : Nat} (h1 : U.heap[b1]? = some (.cells #[.pointer (some ⟨M, 4, none⟩)] 167 (0, 0))) (n1 : M ≠ b1) : FC U (fun k => k = M) (StM M) (192, #[pt b1]) gCl := by
  refine ⟨en_clock, fun W a s hW ha hs => ?_⟩
  refine Calls.mono (clock_c s b1 M 4 W (moC a) 36 _ (hW.at h1 (fun q => n1 q.symm)) ha.x rfl n1 hs) ?_
  rintro e w' ⟨t', n, rfl, hts, hx, hf, ⟨hn0, hn1⟩, hm⟩
  obtain ⟨hx0, ⟨y0, y1, m0, m1, d0, d1, s0, s1, n0, n1'⟩⟩ := ha
  refine ⟨t', _, { a with s := n }, rfl, fro_in hW hf rfl, ⟨hx, ⟨y0, y1, m0, m1, d0, d1, by dsimp only; omega, by dsimp only; omega, n0, n1'⟩⟩, hts, ?_⟩
  unfold gCl
  cases hg : ckG (bl s) with
  | none => rfl
  | some x =>
    obtain ⟨hb, hn⟩ := hm x hg
    exact ⟨rfl, by rw [hn], hb⟩
theorem fc_zone {U : World} {M b1 : Nat} (h1 : U.heap[b1]? = some (.cells #[.pointer (some ⟨M, 0, none⟩)] 143 (0, 0))) (n1 : M ≠ b1) : FC U (fun k => k = M) (StM M) (194, #[pt b1]) gZ := by
  refine ⟨en_zone, fun W a s hW ha hs => ?_⟩
  refine Calls.mono (zone_c s b1 M W a (hW.at h1 (fun q => n1 q.symm)) ha.x n1 hs) ?_
  rintro e w' ⟨a', b, rfl, hx, hf, ⟨h, z, rfl⟩, hm⟩
  obtain ⟨hx0, ⟨y0, y1, m0, m1, d0, d1, s0, s1, n0, n1'⟩⟩ := ha
  refine ⟨⟨#[]⟩, b, _, rfl, fro_in hW hf rfl, ⟨hx, ⟨y0, y1, m0, m1, d0, d1, s0, s1, n0, n1'⟩⟩, Nat.zero_le _, ?_⟩
  unfold gZ
  cases hg : gZn a (bl s) with
  | none => rw [hg] at hm; exact hm
  | some x =>
    rw [hg] at hm
    exact ⟨hm.1, hm.2, rfl⟩
/-- The boxes of a moment's fields. -/
structure Mks (M : Nat) (U : World) (N pd py p1 p2 p3 pa pc pf pz : Nat) : Prop where
  n : M < N
  ld : N ≤ pd
  ly : N ≤ py
  l1 : N ≤ p1
  l2 : N ≤ p2
  l3 : N ≤ p3
  la : N ≤ pa
  lc : N ≤ pc
  lf : N ≤ pf
  lz : N ≤ pz
  d : U.heap[pd]? = some (.cells #[.string ⟨#[45]⟩] 9 (0, 0))
  y : U.heap[py]? = some (.cells #[.pointer (some ⟨M, 1, none⟩)] 167 (0, 0))
  m1 : U.heap[p1]? = some (.cells #[.pointer (some ⟨M, 2, none⟩)] 167 (0, 0))
  m2 : U.heap[p2]? = some (.cells #[.int .i64 1] 3 (0, 0))
  m3 : U.heap[p3]? = some (.cells #[.int .i64 12] 3 (0, 0))
  a : U.heap[pa]? = some (.cells #[.pointer (some ⟨M, 0, none⟩)] 143 (0, 0))
  c : U.heap[pc]? = some (.cells #[.pointer (some ⟨M, 4, none⟩)] 167 (0, 0))
  f : U.heap[pf]? = some (.cells #[.pointer (some ⟨M, 5, none⟩)] 167 (0, 0))
  z : U.heap[pz]? = some (.cells #[.pointer (some ⟨M, 0, none⟩)] 143 (0, 0))
theorem Mks.below {M : Nat} {U U' : World} {N pd py p1 p2 p3 pa pc pf pz : Nat} (h : Mks M U N pd py p1 p2 p3 pa pc pf pz) (hb : Below U.heap.size U U') : Mks M U' N pd py p1 p2 p3 pa pc pf pz := by
  obtain ⟨n, ld, ly, l1, l2, l3, la, lc, lf, lz, d, y, m1, m2, m3, a, c, f, z⟩ := h
  exact ⟨n, ld, ly, l1, l2, l3, la, lc, lf, lz, (hb.block _ (lt_of d)).trans d, (hb.block _ (lt_of y)).trans y, (hb.block _ (lt_of m1)).trans m1, (hb.block _ (lt_of m2)).trans m2, (hb.block _ (lt_of m3)).trans m3, (hb.block _ (lt_of a)).trans a, (hb.block _ (lt_of c)).trans c, (hb.block _ (lt_of f)).trans f, (hb.block _ (lt_of z)).trans z⟩
theorem Mks.fd {M : Nat} {U : World} {N pd py p1 p2 p3 pa pc pf pz : Nat} (h : Mks M U N pd py p1 p2 p3 pa pc pf pz) : FC U (fun k => k = M) (StM M) (187, #[pt pd]) (gMk 45) := fc_mark 45 pd h.d (by have := h.n; have := h.ld; omega)
theorem Mks.fy {M : Nat} {U : World} {N pd py p1 p2 p3 pa pc pf pz : Nat} (h : Mks M U N pd py p1 p2 p3 pa pc pf pz) : FC U (fun k => k = M) (StM M) (188, #[pt py]) gYr := fc_year (O := fun k => k = M) py M 1 _ h.y (by have := h.n; have := h.ly; omega) rfl (StM.sy M)
theorem Mks.fm {M : Nat} {U : World} {N pd py p1 p2 p3 pa pc pf pz : Nat} (h : Mks M U N pd py p1 p2 p3 pa pc pf pz) : FC U (fun k => k = M) (StM M) (190, #[pt p1, pt p2, pt p3]) gMo := fc_two (O := fun k => k = M) p1 p2 p3 M 2 1 12 _ h.m1 h.m2 h.m3 (by have := h.n; have := h.l1; omega) (by have := h.n; have := h.l2; omega) (by have := h.n; have := h.l3; omega) rfl (StM.sm M)
theorem Mks.fa {M : Nat} {U : World} {N pd py p1 p2 p3 pa pc pf pz : Nat} (h : Mks M U N pd py p1 p2 p3 pa pc pf pz) : FC U (fun k => k = M) (StM M) (191, #[pt pa]) gDy := fc_day h.a (by have := h.n; have := h.la; omega)
theorem Mks.fc {M : Nat} {U : World} {N pd py p1 p2 p3 pa pc pf pz : Nat} (h : Mks M U N pd py p1 p2 p3 pa pc pf pz) : FC U (fun k => k = M) (StM M) (192, #[pt pc]) gCl := fc_clock h.c (by have := h.n; have := h.lc; omega)
theorem Mks.ff {M : Nat} {U : World} {N pd py p1 p2 p3 pa pc pf pz : Nat} (h : Mks M U N pd py p1 p2 p3 pa pc pf pz) : FC U (fun k => k = M) (StM M) (193, #[pt pf]) gFr := fc_frac (O := fun k => k = M) pf M 5 _ h.f (by have := h.n; have := h.lf; omega) rfl (StM.sn M) (fun a W ha W' cs t v hc hv hx hf => by
  rw [set_same hv] at hx
  have e := hc.symm.trans ha.x
  exact ⟨by rw [hx, ← hc]; exact ha.x, ha.b⟩)
theorem Mks.fz {M : Nat} {U : World} {N pd py p1 p2 p3 pa pc pf pz : Nat} (h : Mks M U N pd py p1 p2 p3 pa pc pf pz) : FC U (fun k => k = M) (StM M) (194, #[pt pz]) gZ := fc_zone h.z (by have := h.n; have := h.lz; omega)
/-- The fields of each kind. -/
def gK (k : Int) : List (Gd Mo) :=
  if k = 1 then [gYr, gMk 45, gMo, gMk 45, gDy, gMk 84, gCl, gFr, gZ] else if k = 2 then [gYr, gMk 45, gMo, gMk 45, gDy, gZ] else if k = 3 then [gCl, gFr, gZ] else if k = 4 then [gYr, gMk 45, gMo, gZ]
  else if k = 5 then [gYr, gZ] else if k = 6 then [gMk 45, gMk 45, gMo, gMk 45, gDy, gZ] else if k = 7 then [gMk 45, gMk 45, gMk 45, gDy, gZ] else if k = 8 then [gMk 45, gMk 45, gMo, gZ] else []
/-- What fieldsOf gives. -/
def FoP (M : Nat) (k : Int) (w : World) (e : Ending) (w' : World) : Prop :=
  Below w.heap.size w w' ∧ ((1 ≤ k ∧ k ≤ 8 ∧ ∃ (B : Nat) (fs : List Fn), e = .returned (.slice (some ⟨B, 0, none⟩) fs.length fs.length) ∧ fs.length ≤ 100 ∧ M ≠ B ∧ w'.heap[B]? = some (.cells (fs.map fnV).toArray 138 (0, 0)) ∧ FCs w' (fun k => k = M) (StM M) fs (gK k)) ∨ (¬ (1 ≤ k ∧ k ≤ 8) ∧ e = .returned (.slice none 0 0)))
set_option maxHeartbeats 1000000 in
theorem fieldsOf_p (M : Nat) (a : Mo) (w : World) (hM : w.heap[M]? = some (.cells (moC a) 36 (0, 0))) : Calls Tryz.prog 115 #[.pointer (some ⟨M, 0, none⟩)] w (FoP M a.k w) := by
  have hml := lt_of hM
  have HM : Hid _ := And.intro hM hml
  clear hM hml
  go_enter Tryz.func115, Tryz.ntmps115
  go_wp2_with fail
  have HB : Hid (Below w.heap.size w w.drew) := below_drewN 1
  go_region_held3 (fun _ => True) (trivial) (first
    | (go_at_call 159; (with_reducible refine Calls.mono (mark_m _ _) ?_); rintro e w1 ⟨pd, rfl, h1⟩; have HB1 : Hid _ := And.intro h1 (HB.out.trans (h1.bl.mono HB.out.size)); clear h1)
    | (go_at_call 160; (with_reducible refine Calls.mono (mk_year _ _) ?_); rintro e w2 ⟨py, rfl, l2, x2, b2⟩; have HB2 : Hid _ := And.intro (MkB.mk l2 x2 b2) (HB1.out.2.trans (b2.mono HB1.out.2.size)); clear l2 x2 b2)
    | (go_at_call 161; (with_reducible refine Calls.mono (two_m _ _ _ _) ?_); rintro e w3 ⟨p1, p2, p3, rfl, h3⟩; have HB3 : Hid _ := And.intro h3 (HB2.out.2.trans (h3.bl.mono HB2.out.2.size)); clear h3)
    | (go_at_call 162; (with_reducible refine Calls.mono (mk_day _ _) ?_); rintro e w4 ⟨pa, rfl, l2, x2, b2⟩; have HB4 : Hid _ := And.intro (MkB.mk l2 x2 b2) (HB3.out.2.trans (b2.mono HB3.out.2.size)); clear l2 x2 b2)
    | fail)
  go_wp2_with fail
  have HBw : Hid (Below w4.heap.size w4 w4.drew) := below_drewN 1
  go_region_held3 (fun _ => True) (trivial) (first
    | (go_at_call 163; (with_reducible refine Calls.mono (mk_clock _ _) ?_); rintro e w5 ⟨pc, rfl, l2, x2, b2⟩; have HB5 : Hid _ := And.intro (MkB.mk l2 x2 b2) ((bdrewN HB4.out.2 1).trans (b2.mono HB4.out.2.size)); clear l2 x2 b2)
    | (go_at_call 164; (with_reducible refine Calls.mono (mk_frac _ _) ?_); rintro e w6 ⟨pf, rfl, l2, x2, b2⟩; have HB6 : Hid _ := And.intro (MkB.mk l2 x2 b2) (HB5.out.2.trans (b2.mono HB5.out.2.size)); clear l2 x2 b2)
    | (go_at_call 165; (with_reducible refine Calls.mono (mk_zone _ _) ?_); rintro e w7 ⟨pz, rfl, l2, x2, b2⟩; have HB7 : Hid _ := And.intro (MkB.mk l2 x2 b2) (HB6.out.2.trans (b2.mono HB6.out.2.size)); clear l2 x2 b2)
    | fail)
  have u6 := HB7.out.1.bl
  have u5 := bl_step HB6.out.1.bl u6
  have u4d := bl_step HB5.out.1.bl u5
  have u4 : Below w4.heap.size w4 w7 := (below_drewN 1).trans u4d
  have u3 := bl_step HB4.out.1.bl u4
  have u2 := bl_step HB3.out.1.bl u3
  have u1 := bl_step HB2.out.1.bl u2
  have hmk : Mks M w7 w.heap.size pd py p1 p2 p3 pa pc pf pz :=
    ⟨HM.out.2, HB1.out.1.l, Nat.le_trans HB1.out.2.size HB2.out.1.l, Nat.le_trans HB2.out.2.size HB3.out.1.l1, Nat.le_trans HB2.out.2.size HB3.out.1.l2, Nat.le_trans HB2.out.2.size HB3.out.1.l3, Nat.le_trans HB3.out.2.size HB4.out.1.l, Nat.le_trans HB4.out.2.size HB5.out.1.l, Nat.le_trans HB5.out.2.size HB6.out.1.l, Nat.le_trans HB6.out.2.size HB7.out.1.l,
      HB1.out.1.at u1, HB2.out.1.at u2, (u3.block _ (lt_of HB3.out.1.x1)).trans HB3.out.1.x1, (u3.block _ (lt_of HB3.out.1.x2)).trans HB3.out.1.x2, (u3.block _ (lt_of HB3.out.1.x3)).trans HB3.out.1.x3, HB4.out.1.at u4, HB5.out.1.at u5, HB6.out.1.at u6, HB7.out.1.x⟩
  have xM : w7.heap[M]? = some (.cells (moC a) 36 (0, 0)) := (HB7.out.2.block _ HM.out.2).trans HM.out.1
  obtain ⟨⟨k0, _⟩, _⟩ := blk8 xM
  have HK : Hid _ := And.intro hmk HB7.out.2
  have hMlt := HM.out.2
  have hsz7 := HB7.out.2.size
  have hMB : M ≠ w7.heap.size := by omega
  clear u6 u5 u4d u4 u3 u2 u1 hmk xM HB HB1 HB2 HB3 HB4 HB5 HB6 HB7 HBw HM
  have fin : ∀ (fs : List Fn) (V : World), Below w7.heap.size w7 V → M ≠ V.heap.size → (1 ≤ a.k ∧ a.k ≤ 8) → fs.length ≤ 100 → (∀ U, Below V.heap.size V U → FCs U (fun k => k = M) (StM M) fs (gK a.k)) → FoP M a.k w (.returned (.slice (some ⟨V.heap.size, 0, none⟩) fs.length fs.length)) (V.alloc (.cells (fs.map fnV).toArray 138)) := by
    intro fs V hV hMV hk hl hfs
    have hb : Below V.heap.size V (V.alloc (.cells (fs.map fnV).toArray 138)) := (Below.refl _ _).alloc (Nat.le_refl _) _
    refine ⟨(HK.out.2.trans (hV.mono HK.out.2.size)).trans (hb.mono (HK.out.2.trans (hV.mono HK.out.2.size)).size), .inl ⟨hk.1, hk.2, V.heap.size, fs, rfl, hl, hMV, nw_heap _ _, hfs _ hb⟩⟩
  have HF : Hid _ := And.intro fin trivial
  clear fin
  obtain ⟨k, hk⟩ : ∃ k, a.k = k := ⟨_, rfl⟩
  rw [hk] at k0 HF
  have HKK : Hid _ := hk
  clear hk
  by_cases e1 : k = 1
  · subst e1
    go_wp2_with (first | (go_at_call 159; (with_reducible refine Calls.mono (mark_m _ _) ?_); rintro e w8 ⟨pT, rfl, h8⟩; have HT : Hid _ := h8; clear h8))
    go_ret
    rw [HKK.out]
    exact HF.out.1 [(188, #[pt py]), (187, #[pt pd]), (190, #[pt p1, pt p2, pt p3]), (187, #[pt pd]), (191, #[pt pa]), (187, #[pt pT]), (192, #[pt pc]), (193, #[pt pf]), (194, #[pt pz])] w8 HT.out.bl (by have := HT.out.bl.size; omega) (by omega) (by simp) (fun U hU => by
      have hq := bl_step HT.out.bl hU
      exact (.cons (HK.out.1.below hq).fy (.cons (HK.out.1.below hq).fd (.cons (HK.out.1.below hq).fm (.cons (HK.out.1.below hq).fd (.cons (HK.out.1.below hq).fa (.cons (fc_mark 84 pT ((hU.block _ (lt_of HT.out.x)).trans HT.out.x) (by have := HT.out.l; omega)) (.cons (HK.out.1.below hq).fc (.cons (HK.out.1.below hq).ff (.cons (HK.out.1.below hq).fz .nil))))))))))
  by_cases e2 : k = 2
  · subst e2
    go_wp2_with fail
    go_ret
    rw [HKK.out]
    exact HF.out.1 [(188, #[pt py]), (187, #[pt pd]), (190, #[pt p1, pt p2, pt p3]), (187, #[pt pd]), (191, #[pt pa]), (194, #[pt pz])] w7 (Below.refl _ _) hMB (by omega) (by simp) (fun U hq => (.cons (HK.out.1.below hq).fy (.cons (HK.out.1.below hq).fd (.cons (HK.out.1.below hq).fm (.cons (HK.out.1.below hq).fd (.cons (HK.out.1.below hq).fa (.cons (HK.out.1.below hq).fz .nil)))))))
  by_cases e3 : k = 3
  · subst e3
    go_wp2_with fail
    go_ret
    rw [HKK.out]
    exact HF.out.1 [(192, #[pt pc]), (193, #[pt pf]), (194, #[pt pz])] w7 (Below.refl _ _) hMB (by omega) (by simp) (fun U hq => (.cons (HK.out.1.below hq).fc (.cons (HK.out.1.below hq).ff (.cons (HK.out.1.below hq).fz .nil))))
  by_cases e4 : k = 4
  · subst e4
    go_wp2_with fail
    go_ret
    rw [HKK.out]
    exact HF.out.1 [(188, #[pt py]), (187, #[pt pd]), (190, #[pt p1, pt p2, pt p3]), (194, #[pt pz])] w7 (Below.refl _ _) hMB (by omega) (by simp) (fun U hq => (.cons (HK.out.1.below hq).fy (.cons (HK.out.1.below hq).fd (.cons (HK.out.1.below hq).fm (.cons (HK.out.1.below hq).fz .nil)))))
  by_cases e5 : k = 5
  · subst e5
    go_wp2_with fail
    go_ret
    rw [HKK.out]
    exact HF.out.1 [(188, #[pt py]), (194, #[pt pz])] w7 (Below.refl _ _) hMB (by omega) (by simp) (fun U hq => (.cons (HK.out.1.below hq).fy (.cons (HK.out.1.below hq).fz .nil)))
  by_cases e6 : k = 6
  · subst e6
    go_wp2_with fail
    go_ret
    rw [HKK.out]
    exact HF.out.1 [(187, #[pt pd]), (187, #[pt pd]), (190, #[pt p1, pt p2, pt p3]), (187, #[pt pd]), (191, #[pt pa]), (194, #[pt pz])] w7 (Below.refl _ _) hMB (by omega) (by simp) (fun U hq => (.cons (HK.out.1.below hq).fd (.cons (HK.out.1.below hq).fd (.cons (HK.out.1.below hq).fm (.cons (HK.out.1.below hq).fd (.cons (HK.out.1.below hq).fa (.cons (HK.out.1.below hq).fz .nil)))))))
  by_cases e7 : k = 7
  · subst e7
    go_wp2_with fail
    go_ret
    rw [HKK.out]
    exact HF.out.1 [(187, #[pt pd]), (187, #[pt pd]), (187, #[pt pd]), (191, #[pt pa]), (194, #[pt pz])] w7 (Below.refl _ _) hMB (by omega) (by simp) (fun U hq => (.cons (HK.out.1.below hq).fd (.cons (HK.out.1.below hq).fd (.cons (HK.out.1.below hq).fd (.cons (HK.out.1.below hq).fa (.cons (HK.out.1.below hq).fz .nil))))))
  by_cases e8 : k = 8
  · subst e8
    go_wp2_with fail
    go_ret
    rw [HKK.out]
    exact HF.out.1 [(187, #[pt pd]), (187, #[pt pd]), (190, #[pt p1, pt p2, pt p3]), (194, #[pt pz])] w7 (Below.refl _ _) hMB (by omega) (by simp) (fun U hq => (.cons (HK.out.1.below hq).fd (.cons (HK.out.1.below hq).fd (.cons (HK.out.1.below hq).fm (.cons (HK.out.1.below hq).fz .nil)))))
  go_wp2_with fail
  go_ret
  rw [HKK.out]
  exact ⟨HK.out.2, .inr ⟨by omega, rfl⟩⟩
end Go.Proofs.YtgaegajcejpmdaaGreatDoor.Dt
namespace Go.Proofs.YtgaegajcejpmdaaGreatDoor.Dt
open Go.RowKit
set_option linter.unusedVariables false

theorem eq_sn (w : World) (ad : Addr) (n c : Nat) : (binOp BinOp.eql 141 (.slice (some ad) n c) (.slice none 0 0)).run Tryz.prog w = .ok (.bool false) w := by kernel_rfl
theorem eq_nn (w : World) : (binOp BinOp.eql 141 (.slice none 0 0) (.slice none 0 0)).run Tryz.prog w = .ok (.bool true) w := by kernel_rfl
abbrev a0 (k : Int) : Mo := ⟨k, 2000, 1, 1, 0, 0, false, 0⟩
abbrev z0 : Mo := ⟨0, 0, 0, 0, 0, 0, false, 0⟩
def paG (k : Int) (l : List Int) : Option Mo := (runG (gK k) (a0 k) l).bind fun x => if x.2 = [] ∧ ¬ (x.1.s = 86400 ∧ 0 < x.1.n) then some (addM (if k = 3 then { x.1 with s := x.1.s.tmod 86400 } else x.1) ⟨0, 0, 0⟩) else none
def PaP (k : Int) (l : List Int) (w : World) (e : Ending) (w' : World) : Prop :=
  Below w.heap.size w w' ∧ e = .returned (.tuple #[moV (if 1 ≤ k ∧ k ≤ 8 then (paG k l).getD z0 else z0), .int .i64 (if 1 ≤ k ∧ k ≤ 8 then (if (paG k l).isSome then 0 else 2) else 1)])
theorem tmod_in {s : Int} (h0 : -100000000000000 < s) (h1 : s < 100000000000000) : -100000000000000 < s.tmod 86400 ∧ s.tmod 86400 < 100000000000000 := by
  have a := Int.lt_tmod_of_pos s (show (0 : Int) < 86400 by omega)
  have b := Int.tmod_lt_of_pos s (show (0 : Int) < 86400 by omega)
  omega
set_option maxHeartbeats 1000000 in
theorem parse_p (k : Int) (s : ByteArray) (w : World) (hs : s.size ≤ maxLen) : Calls Tryz.prog 62 #[.int .i64 k, .string s] w (PaP k (bl s) w) := by
  obtain ⟨x1, x2, hb0⟩ := box2 w (.cells mo0 36) (.cells (moC (a0 k)) 36)
  have H0 : Hid _ := And.intro x1 (And.intro x2 hb0)
  clear x1 x2 hb0
  go_enter Tryz.func62, Tryz.ntmps62
  go_wp2_with fail
  generalize hU : ((w.alloc (.cells mo0 36)).alloc (.cells (moC (a0 k)) 36)) = U at *
  clear hU
  refine Calls.mono (fieldsOf_p (w.heap.size + 1) (a0 k) U H0.out.2.1) ?_
  rintro e w1 ⟨hb1, hcase⟩
  dsimp only at hcase
  rcases hcase with ⟨k1, k8, B, fs, rfl, hl, hMB, hBx, hfc⟩ | ⟨hk, rfl⟩
  · have hen := eq_sn
    have x1M : w1.heap[w.heap.size + 1]? = some (.cells (moC (a0 k)) 36 (0, 0)) := (hb1.block _ (lt_of H0.out.2.1)).trans H0.out.2.1
    have hst : StM (w.heap.size + 1) (a0 k) w1 := ⟨x1M, ⟨by simp, by simp, by simp, by simp, by simp, by simp, by simp, by simp, by simp, by simp⟩⟩
    have hwh := whole_p hfc B hBx (fun q => hMB q.symm) hl w1 (a0 k) s (Fro.refl _ _) hst hs
    have HW : Hid _ := And.intro hwh (And.intro hb1 trivial)
    clear hwh hst x1M hfc hBx hb1
    generalize fs.length = n at *
    go_wp2_with fail
    refine Calls.mono HW.out.1 ?_
    rintro e w2 ⟨b, x, rfl, hfr, hst, hT, hF⟩
    have fr2 : Below w.heap.size w w2 := H0.out.2.2.trans (((Fro.below (O := fun j => j = w.heap.size + 1) HW.out.2.1).trans hfr).toBelow (Nat.le_of_lt (lt_of H0.out.1)) (fun i hi q => by omega))
    have xR : w2.heap[w.heap.size]? = some (.cells mo0 36 (0, 0)) := hfr.at ((HW.out.2.1.block _ (lt_of H0.out.1)).trans H0.out.1) (by omega)
    obtain ⟨⟨r0, r1, r2, r3, r4, r5, r6, r7⟩, t0, t1, t2, t3, t4, t5, t6, t7⟩ := blk8 xR
    obtain ⟨⟨g0, g1, g2, g3, g4, g5', g6, g7⟩, f0, f1, f2, f3, f4, f5, f6, f7⟩ := blk8 hst.x
    have HX : Hid _ := And.intro xR (And.intro fr2 (And.intro hst (And.intro hT hF)))
    have kin : 1 ≤ k ∧ k ≤ 8 := ⟨k1, k8⟩
    have hpa0 : b = false → paG k (bl s) = none := fun q => by
      unfold paG
      cases hr : runG (gK k) (a0 k) (bl s) with
      | none => rfl
      | some y => rw [Option.bind_some, if_neg (fun p => hF q y hr p.1)]
    have hpa1 : b = true → x.s = 86400 → 0 < x.n → paG k (bl s) = none := fun q p1 p2 => by
      unfold paG
      rw [hT q, Option.bind_some, if_neg (fun p => p.2 ⟨p1, p2⟩)]
    have hpa2 : b = true → ¬ (x.s = 86400 ∧ 0 < x.n) → paG k (bl s) = some (addM (if k = 3 then { x with s := x.s.tmod 86400 } else x) ⟨0, 0, 0⟩) := fun q p => by
      unfold paG
      rw [hT q, Option.bind_some, if_pos ⟨rfl, p⟩]
    have HP : Hid _ := And.intro hpa0 (And.intro hpa1 hpa2)
    clear hpa0 hpa1 hpa2 hT hF hfr xR fr2 HW hen
    obtain ⟨xk, xy, xm, xd, xs, xn, xhz, xz⟩ := x
    obtain ⟨y0, y1, m0, m1, d0, d1, s0, s1, n0, n1⟩ := hst.b
    clear hst
    dsimp only at *
    cases b
    · have HR : Hid _ := HP.out.1 rfl
      clear HP
      go_wp2_with fail
      obtain ⟨U2, hU2, hx2, hb2, _⟩ := put8 (X := w.heap.size) HX.out.2.1 (Nat.le_refl _) HX.out.1 (.int .i64 0) (.int .i64 0) (.int .i64 0) (.int .i64 0) (.int .i64 0) (.int .i64 0) (.bool false) (.int .i64 0)
      rw [hU2]
      obtain ⟨⟨q0, q1, q2, q3, q4, q5, q6, q7⟩, _⟩ := blk8 hx2
      refine bodyPost_ret (v := .tuple #[moV z0, .int .i64 2]) (by simp [results, Tryz.results62, go_sem, q0, q1, q2, q3, q4, q5, q6, q7]) rfl ⟨hb2, ?_⟩
      rw [HR.out, if_pos kin, if_pos kin]
      rfl
    · by_cases h24 : xs = 86400
      · by_cases hn0 : 0 < xn
        · have HR : Hid _ := HP.out.2.1 rfl h24 hn0
          clear HP
          subst h24
          go_wp2_with fail
          obtain ⟨U2, hU2, hx2, hb2, _⟩ := put8 (X := w.heap.size) HX.out.2.1 (Nat.le_refl _) HX.out.1 (.int .i64 0) (.int .i64 0) (.int .i64 0) (.int .i64 0) (.int .i64 0) (.int .i64 0) (.bool false) (.int .i64 0)
          rw [hU2]
          obtain ⟨⟨q0, q1, q2, q3, q4, q5, q6, q7⟩, _⟩ := blk8 hx2
          refine bodyPost_ret (v := .tuple #[moV z0, .int .i64 2]) (by simp [results, Tryz.results62, go_sem, q0, q1, q2, q3, q4, q5, q6, q7]) rfl ⟨hb2, ?_⟩
          rw [HR.out, if_pos kin, if_pos kin]
          rfl
        · have hno : ¬ (xs = 86400 ∧ 0 < xn) := fun q => hn0 q.2
          have hb24 : (xs == 86400) = true := by simpa using h24
          by_cases hk3 : k = 3
          · have HR : Hid _ := (HP.out.2.2 rfl hno).trans (by rw [if_pos hk3])
            have hbT := tmod_in s0 s1
            obtain ⟨T, hTT⟩ : ∃ T, xs.tmod 86400 = T := ⟨_, rfl⟩
            rw [hTT] at hbT HR
            obtain ⟨RR, hRR⟩ : ∃ RR, addM ⟨xk, xy, xm, xd, T, xn, xhz, xz⟩ ⟨0, 0, 0⟩ = RR := ⟨_, rfl⟩
            have hadd := fun V : World => add_p ⟨xk, xy, xm, xd, T, xn, xhz, xz⟩ ⟨0, 0, 0⟩ V ⟨y0, y1, m0, m1, d0, d1, hbT.1, hbT.2, n0, n1⟩ ⟨by simp, by simp, by simp, by simp, by simp, by simp⟩
            have hk3b : (k == 3) = true := by simpa using hk3
            have xR3 : (w2.setCell ⟨w.heap.size + 1, 4, none⟩ (.int .i64 T)).heap[w.heap.size]? = some (.cells mo0 36 (0, 0)) := (Below.heap_setCell _ _ _ _ (by simp)).trans HX.out.1
            have fr3 : Below w.heap.size w (w2.setCell ⟨w.heap.size + 1, 4, none⟩ (.int .i64 T)) := HX.out.2.1.setCell (p := ⟨w.heap.size + 1, 4, none⟩) (by simp) _
            rw [hRR] at hadd HR
            have HA : Hid _ := And.intro hadd (And.intro xR3 fr3)
            clear hadd hRR HP hno h24 hk3 xR3 fr3
            go_wp2_with fail
            refine Calls.mono (HA.out.1 _) ?_
            rintro e w3 ⟨rfl, hb3⟩
            have xR4 : w3.heap[w.heap.size]? = some (.cells mo0 36 (0, 0)) := (hb3.block _ (lt_of HA.out.2.1)).trans HA.out.2.1
            have fr4 := HA.out.2.2.trans (hb3.mono HA.out.2.2.size)
            clear r0 r1 r2 r3 r4 r5 r6 r7 t0 t1 t2 t3 t4 t5 t6 t7 g0 g1 g2 g3 g4 g5' g6 g7 f0 f1 f2 f3 f4 f5 f6 f7
            obtain ⟨⟨r0, r1, r2, r3, r4, r5, r6, r7⟩, t0, t1, t2, t3, t4, t5, t6, t7⟩ := blk8 xR4
            have HY : Hid _ := And.intro xR4 fr4
            clear xR4 fr4 hb3 HA HX
            go_wp2_with fail
            obtain ⟨U2, hU2, hx2, hb2, _⟩ := put8 (X := w.heap.size) HY.out.2 (Nat.le_refl _) HY.out.1 (.int .i64 RR.k) (.int .i64 RR.y) (.int .i64 RR.m) (.int .i64 RR.d) (.int .i64 RR.s) (.int .i64 RR.n) (.bool RR.hz) (.int .i64 RR.z)
            rw [hU2]
            obtain ⟨⟨q0, q1, q2, q3, q4, q5, q6, q7⟩, _⟩ := blk8 hx2
            refine bodyPost_ret (v := .tuple #[moV RR, .int .i64 0]) (by simp [results, Tryz.results62, go_sem, q0, q1, q2, q3, q4, q5, q6, q7]) rfl ⟨hb2, ?_⟩
            rw [HR.out, if_pos kin, if_pos kin]
            rfl
          · have HR : Hid _ := (HP.out.2.2 rfl hno).trans (by rw [if_neg hk3])
            obtain ⟨RR, hRR⟩ : ∃ RR, addM ⟨xk, xy, xm, xd, xs, xn, xhz, xz⟩ ⟨0, 0, 0⟩ = RR := ⟨_, rfl⟩
            have hadd := fun V : World => add_p ⟨xk, xy, xm, xd, xs, xn, xhz, xz⟩ ⟨0, 0, 0⟩ V ⟨y0, y1, m0, m1, d0, d1, s0, s1, n0, n1⟩ ⟨by simp, by simp, by simp, by simp, by simp, by simp⟩
            have hk3b : (k == 3) = false := by simpa using hk3
            have xR3 := HX.out.1
            have fr3 := HX.out.2.1
            rw [hRR] at hadd HR
            have HA : Hid _ := And.intro hadd (And.intro xR3 fr3)
            clear hadd hRR HP hno h24 hk3 xR3 fr3
            go_wp2_with fail
            refine Calls.mono (HA.out.1 _) ?_
            rintro e w3 ⟨rfl, hb3⟩
            have xR4 : w3.heap[w.heap.size]? = some (.cells mo0 36 (0, 0)) := (hb3.block _ (lt_of HA.out.2.1)).trans HA.out.2.1
            have fr4 := HA.out.2.2.trans (hb3.mono HA.out.2.2.size)
            clear r0 r1 r2 r3 r4 r5 r6 r7 t0 t1 t2 t3 t4 t5 t6 t7 g0 g1 g2 g3 g4 g5' g6 g7 f0 f1 f2 f3 f4 f5 f6 f7
            obtain ⟨⟨r0, r1, r2, r3, r4, r5, r6, r7⟩, t0, t1, t2, t3, t4, t5, t6, t7⟩ := blk8 xR4
            have HY : Hid _ := And.intro xR4 fr4
            clear xR4 fr4 hb3 HA HX
            go_wp2_with fail
            obtain ⟨U2, hU2, hx2, hb2, _⟩ := put8 (X := w.heap.size) HY.out.2 (Nat.le_refl _) HY.out.1 (.int .i64 RR.k) (.int .i64 RR.y) (.int .i64 RR.m) (.int .i64 RR.d) (.int .i64 RR.s) (.int .i64 RR.n) (.bool RR.hz) (.int .i64 RR.z)
            rw [hU2]
            obtain ⟨⟨q0, q1, q2, q3, q4, q5, q6, q7⟩, _⟩ := blk8 hx2
            refine bodyPost_ret (v := .tuple #[moV RR, .int .i64 0]) (by simp [results, Tryz.results62, go_sem, q0, q1, q2, q3, q4, q5, q6, q7]) rfl ⟨hb2, ?_⟩
            rw [HR.out, if_pos kin, if_pos kin]
            rfl
      · have hno : ¬ (xs = 86400 ∧ 0 < xn) := fun q => h24 q.1
        have hb24 : (xs == 86400) = false := by simpa using h24
        by_cases hk3 : k = 3
        · have HR : Hid _ := (HP.out.2.2 rfl hno).trans (by rw [if_pos hk3])
          have hbT := tmod_in s0 s1
          obtain ⟨T, hTT⟩ : ∃ T, xs.tmod 86400 = T := ⟨_, rfl⟩
          rw [hTT] at hbT HR
          obtain ⟨RR, hRR⟩ : ∃ RR, addM ⟨xk, xy, xm, xd, T, xn, xhz, xz⟩ ⟨0, 0, 0⟩ = RR := ⟨_, rfl⟩
          have hadd := fun V : World => add_p ⟨xk, xy, xm, xd, T, xn, xhz, xz⟩ ⟨0, 0, 0⟩ V ⟨y0, y1, m0, m1, d0, d1, hbT.1, hbT.2, n0, n1⟩ ⟨by simp, by simp, by simp, by simp, by simp, by simp⟩
          have hk3b : (k == 3) = true := by simpa using hk3
          have xR3 : (w2.setCell ⟨w.heap.size + 1, 4, none⟩ (.int .i64 T)).heap[w.heap.size]? = some (.cells mo0 36 (0, 0)) := (Below.heap_setCell _ _ _ _ (by simp)).trans HX.out.1
          have fr3 : Below w.heap.size w (w2.setCell ⟨w.heap.size + 1, 4, none⟩ (.int .i64 T)) := HX.out.2.1.setCell (p := ⟨w.heap.size + 1, 4, none⟩) (by simp) _
          rw [hRR] at hadd HR
          have HA : Hid _ := And.intro hadd (And.intro xR3 fr3)
          clear hadd hRR HP hno h24 hk3 xR3 fr3
          go_wp2_with fail
          refine Calls.mono (HA.out.1 _) ?_
          rintro e w3 ⟨rfl, hb3⟩
          have xR4 : w3.heap[w.heap.size]? = some (.cells mo0 36 (0, 0)) := (hb3.block _ (lt_of HA.out.2.1)).trans HA.out.2.1
          have fr4 := HA.out.2.2.trans (hb3.mono HA.out.2.2.size)
          clear r0 r1 r2 r3 r4 r5 r6 r7 t0 t1 t2 t3 t4 t5 t6 t7 g0 g1 g2 g3 g4 g5' g6 g7 f0 f1 f2 f3 f4 f5 f6 f7
          obtain ⟨⟨r0, r1, r2, r3, r4, r5, r6, r7⟩, t0, t1, t2, t3, t4, t5, t6, t7⟩ := blk8 xR4
          have HY : Hid _ := And.intro xR4 fr4
          clear xR4 fr4 hb3 HA HX
          go_wp2_with fail
          obtain ⟨U2, hU2, hx2, hb2, _⟩ := put8 (X := w.heap.size) HY.out.2 (Nat.le_refl _) HY.out.1 (.int .i64 RR.k) (.int .i64 RR.y) (.int .i64 RR.m) (.int .i64 RR.d) (.int .i64 RR.s) (.int .i64 RR.n) (.bool RR.hz) (.int .i64 RR.z)
          rw [hU2]
          obtain ⟨⟨q0, q1, q2, q3, q4, q5, q6, q7⟩, _⟩ := blk8 hx2
          refine bodyPost_ret (v := .tuple #[moV RR, .int .i64 0]) (by simp [results, Tryz.results62, go_sem, q0, q1, q2, q3, q4, q5, q6, q7]) rfl ⟨hb2, ?_⟩
          rw [HR.out, if_pos kin, if_pos kin]
          rfl
        · have HR : Hid _ := (HP.out.2.2 rfl hno).trans (by rw [if_neg hk3])
          obtain ⟨RR, hRR⟩ : ∃ RR, addM ⟨xk, xy, xm, xd, xs, xn, xhz, xz⟩ ⟨0, 0, 0⟩ = RR := ⟨_, rfl⟩
          have hadd := fun V : World => add_p ⟨xk, xy, xm, xd, xs, xn, xhz, xz⟩ ⟨0, 0, 0⟩ V ⟨y0, y1, m0, m1, d0, d1, s0, s1, n0, n1⟩ ⟨by simp, by simp, by simp, by simp, by simp, by simp⟩
          have hk3b : (k == 3) = false := by simpa using hk3
          have xR3 := HX.out.1
          have fr3 := HX.out.2.1
          rw [hRR] at hadd HR
          have HA : Hid _ := And.intro hadd (And.intro xR3 fr3)
          clear hadd hRR HP hno h24 hk3 xR3 fr3
          go_wp2_with fail
          refine Calls.mono (HA.out.1 _) ?_
          rintro e w3 ⟨rfl, hb3⟩
          have xR4 : w3.heap[w.heap.size]? = some (.cells mo0 36 (0, 0)) := (hb3.block _ (lt_of HA.out.2.1)).trans HA.out.2.1
          have fr4 := HA.out.2.2.trans (hb3.mono HA.out.2.2.size)
          clear r0 r1 r2 r3 r4 r5 r6 r7 t0 t1 t2 t3 t4 t5 t6 t7 g0 g1 g2 g3 g4 g5' g6 g7 f0 f1 f2 f3 f4 f5 f6 f7
          obtain ⟨⟨r0, r1, r2, r3, r4, r5, r6, r7⟩, t0, t1, t2, t3, t4, t5, t6, t7⟩ := blk8 xR4
          have HY : Hid _ := And.intro xR4 fr4
          clear xR4 fr4 hb3 HA HX
          go_wp2_with fail
          obtain ⟨U2, hU2, hx2, hb2, _⟩ := put8 (X := w.heap.size) HY.out.2 (Nat.le_refl _) HY.out.1 (.int .i64 RR.k) (.int .i64 RR.y) (.int .i64 RR.m) (.int .i64 RR.d) (.int .i64 RR.s) (.int .i64 RR.n) (.bool RR.hz) (.int .i64 RR.z)
          rw [hU2]
          obtain ⟨⟨q0, q1, q2, q3, q4, q5, q6, q7⟩, _⟩ := blk8 hx2
          refine bodyPost_ret (v := .tuple #[moV RR, .int .i64 0]) (by simp [results, Tryz.results62, go_sem, q0, q1, q2, q3, q4, q5, q6, q7]) rfl ⟨hb2, ?_⟩
          rw [HR.out, if_pos kin, if_pos kin]
          rfl
  · have x1R : w1.heap[w.heap.size]? = some (.cells mo0 36 (0, 0)) := (hb1.block _ (lt_of H0.out.1)).trans H0.out.1
    have fr1 : Below w.heap.size w w1 := H0.out.2.2.trans (hb1.mono H0.out.2.2.size)
    obtain ⟨⟨r0, r1, r2, r3, r4, r5, r6, r7⟩, t0, t1, t2, t3, t4, t5, t6, t7⟩ := blk8 x1R
    have hen := eq_nn
    have HX : Hid _ := And.intro x1R fr1
    clear x1R fr1 hb1
    go_wp2_with fail
    obtain ⟨U2, hU2, hx2, hb2, _⟩ := put8 (X := w.heap.size) HX.out.2 (Nat.le_refl _) HX.out.1 (.int .i64 0) (.int .i64 0) (.int .i64 0) (.int .i64 0) (.int .i64 0) (.int .i64 0) (.bool false) (.int .i64 0)
    rw [hU2]
    obtain ⟨⟨q0, q1, q2, q3, q4, q5, q6, q7⟩, _⟩ := blk8 hx2
    refine bodyPost_ret (v := .tuple #[moV z0, .int .i64 1]) (by simp [results, Tryz.results62, go_sem, q0, q1, q2, q3, q4, q5, q6, q7]) rfl ⟨hb2, ?_⟩
    rw [if_neg hk, if_neg hk]
end Go.Proofs.YtgaegajcejpmdaaGreatDoor.Dt
namespace Go.Proofs.YtgaegajcejpmdaaGreatDoor.Dt
set_option linter.unusedVariables false

theorem obind {α β : Type} {o : Option α} {f g : α → Option β} (h : ∀ x, o = some x → f x = g x) : o.bind f = o.bind g := by
  cases o with
  | none => rfl
  | some x => exact h x rfl
/-- A text that begins with a digit. -/
def Dig (l : List Int) : Prop := ∃ c, l.head? = some c ∧ isD c = true
theorem dig_ne {l : List Int} (h : Dig l) {c : Int} (hc : isD c = false) : l.head? ≠ some c := by
  obtain ⟨d, hd, hi⟩ := h
  intro q
  rw [hd] at q
  cases q
  rw [hi] at hc
  cases hc
theorem dig_nn {l : List Int} (h : Dig l) : l ≠ [] := by
  obtain ⟨d, hd, _⟩ := h
  rintro rfl
  cases hd
theorem zn_dig {a : Mo} {l : List Int} (h : Dig l) : gZn a l = none := by
  unfold gZn
  rw [if_neg (dig_nn h), if_neg (fun q => dig_ne h (c := 90) (by decide) (by rw [q]; rfl))]
  cases zR l with
  | none => rfl
  | some z => rw [Option.bind_some, if_neg (dig_ne h (by decide)), if_neg (dig_ne h (by decide))]
theorem drop_dig {l : List Int} {n : Nat} (h : n < dgs l) : Dig (l.drop n) := by
  have hl := dgs_len l
  have := dgs_get l n h
  rw [List.drop_eq_getElem_cons (by omega)]
  exact ⟨_, rfl, this⟩
/-- Years: with ten digits or more what is left begins with one. -/
theorem yr_bind (F : Mo → List Int → Option Mo) (hF : ∀ a l, Dig l → F a l = none) (a : Mo) (l : List Int) : ((gYr a l).bind fun x => F x.1 x.2) = (yrB l).bind fun y => F { a with y := y.1 } y.2 := by
  unfold gYr yrB
  have ht : (if l.head? = some 45 then l.tail else l) = yrK l := rfl
  simp only [ht]
  by_cases h9 : 9 < dgs (yrK l)
  · rw [if_pos (show dgs (yrK l) < 4 ∨ 9 < dgs (yrK l) ∨ (4 < dgs (yrK l) ∧ (yrK l).head? = some 48) from .inr (.inl h9))]
    have hk : dk 9 (yrK l) = 9 := by unfold dk; omega
    split
    · rw [Option.bind_some, hk]
      exact hF _ _ (drop_dig h9)
    · rfl
  · have hk : dk 9 (yrK l) = dgs (yrK l) := by unfold dk; omega
    have hnm : nmB (dgs (yrK l)) (yrK l) = some (dvl ((yrK l).take (dgs (yrK l))), (yrK l).drop (dgs (yrK l))) := by unfold nmB; rw [if_neg (by omega)]
    rw [hnm, Option.bind_some, hk]
    have hv := (dvl_bd (l := yrK l) (j := dgs (yrK l)) (Nat.le_refl _) (by omega)).1
    unfold yrV
    rw [hk]
    unfold yrOk
    rw [hk]
    by_cases h4 : dgs (yrK l) < 4
    · rw [if_pos (Or.inl h4), if_neg (by simp; omega)]
      rfl
    · by_cases h48 : 4 < dgs (yrK l) ∧ (yrK l).head? = some 48
      · rw [if_pos (Or.inr (Or.inr h48)), if_neg (by simp [h48])]
        rfl
      · have hno : ¬ (dgs (yrK l) < 4 ∨ 9 < dgs (yrK l) ∨ (4 < dgs (yrK l) ∧ (yrK l).head? = some 48)) := fun q => by
          rcases q with q | q | q
          · exact h4 q
          · exact h9 q
          · exact h48 q
        rw [if_neg hno]
        by_cases h0 : dvl ((yrK l).take (dgs (yrK l))) = 0
        · have hz : ¬ ((decide (4 ≤ dgs (yrK l)) && decide (0 < dvl ((yrK l).take (dgs (yrK l)))) && !(decide (4 < dgs (yrK l)) && decide ((yrK l).head? = some 48))) = true) := by simp [h0]
          rw [if_pos h0, if_neg hz]
          rfl
        · have hz : (decide (4 ≤ dgs (yrK l)) && decide (0 < dvl ((yrK l).take (dgs (yrK l)))) && !(decide (4 < dgs (yrK l)) && decide ((yrK l).head? = some 48))) = true := by
            have e1 : decide (4 ≤ dgs (yrK l)) = true := by simp; omega
            have e2 : decide (0 < dvl ((yrK l).take (dgs (yrK l)))) = true := by simp; omega
            rw [e1, e2]
            by_cases q : 4 < dgs (yrK l)
            · have e3 : decide ((yrK l).head? = some 48) = false := by simpa using fun p => h48 ⟨q, p⟩
              rw [e3]; simp
            · have e3 : decide (4 < dgs (yrK l)) = false := by simpa using q
              rw [e3]; rfl
          rw [if_neg h0, if_pos hz]
          rfl
/-- Fractions likewise. -/
theorem fr_bind (F : Mo → List Int → Option Mo) (hF : ∀ a l, Dig l → F a l = none) (a : Mo) (ha : a.n = 0) (l : List Int) : ((gFr a l).bind fun x => F x.1 x.2) = (frB l).bind fun y => F { a with n := y.1 } y.2 := by
  unfold gFr frG frB
  by_cases h46 : l.head? = some 46
  · rw [if_pos h46, if_pos h46]
    by_cases h9 : 9 < dgs l.tail
    · have hk : dk 9 l.tail = 9 := by unfold dk; omega
      rw [hk, if_neg (by omega), if_pos (Or.inr h9)]
      simp only [Option.map_some, Option.bind_some]
      rw [hF _ _ (drop_dig h9)]
      rfl
    · have hk : dk 9 l.tail = dgs l.tail := by unfold dk; omega
      rw [hk]
      by_cases h0 : dgs l.tail = 0
      · rw [if_pos h0, if_pos (Or.inl (by omega))]
        rfl
      · rw [if_neg h0, if_neg (by omega)]
        have hnm : nmB (dgs l.tail) l.tail = some (dvl (l.tail.take (dgs l.tail)), l.tail.drop (dgs l.tail)) := by unfold nmB; rw [if_neg (by omega)]
        rw [hnm]
        simp
  · rw [if_neg h46, if_neg h46]
    simp only [Option.map_some, Option.bind_some]
    have : { a with n := 0 } = a := by rw [← ha]
    rw [this]
theorem mk_bind {σ : Type} {β : Type} (c : Int) (F : σ → List Int → Option β) (a : σ) (l : List Int) : ((gMk c a l).bind fun x => F x.1 x.2) = (tkB c l).bind fun r => F a r := by
  unfold gMk tkB
  split <;> rfl
theorem mo_bind (F : Mo → List Int → Option Mo) (a : Mo) (l : List Int) : ((gMo a l).bind fun x => F x.1 x.2) = (inB 1 12 l).bind fun x => F { a with m := x.1 } x.2 := by
  unfold gMo
  cases inB 1 12 l <;> rfl
theorem dy_bind (F : Mo → List Int → Option Mo) (a : Mo) (l : List Int) : ((gDy a l).bind fun x => F x.1 x.2) = (inB 1 (lenL (lnY a.y) a.m) l).bind fun x => F { a with d := x.1 } x.2 := by
  unfold gDy
  cases inB 1 (lenL (lnY a.y) a.m) l <;> rfl
theorem ck_eq (l : List Int) : ckG l = (inB 0 24 l).bind fun h => (tkB 58 h.2).bind fun l1 => (inB 0 59 l1).bind fun m => (tkB 58 m.2).bind fun l2 => (inB 0 59 l2).bind fun s => if 3600 * h.1 + 60 * m.1 + s.1 ≤ 86400 then some (3600 * h.1 + 60 * m.1 + s.1, s.2) else none := by
  unfold ckG g5
  simp only [runG, gMk, tkB]
  cases inB 0 24 l with
  | none => rfl
  | some h =>
    simp only [Option.map_some, Option.bind_some]
    split
    · simp only [Option.bind_some]
      cases inB 0 59 h.2.tail with
      | none => rfl
      | some m =>
        simp only [Option.map_some, Option.bind_some]
        split
        · simp only [Option.bind_some]
          cases inB 0 59 m.2.tail with
          | none => rfl
          | some s => rfl
        · rfl
    · rfl
/-- A clock with its fraction. -/
theorem cl_bind (F : Mo → List Int → Option Mo) (hF : ∀ a l, Dig l → F a l = none) (h24 : ∀ a l, a.s = 86400 → 0 < a.n → F a l = none) (a : Mo) (ha : a.n = 0) (l : List Int) :
    ((gCl a l).bind fun x => (gFr x.1 x.2).bind fun y => F y.1 y.2) = (clB l).bind fun c => F { a with s := c.1.1, n := c.1.2 } c.2 := by
  have h1 : ((gCl a l).bind fun x => (gFr x.1 x.2).bind fun y => F y.1 y.2) = (ckG l).bind fun c => (frB c.2).bind fun f => F { a with s := c.1, n := f.1 } f.2 := by
    unfold gCl
    cases ckG l with
    | none => rfl
    | some c =>
      simp only [Option.map_some, Option.bind_some]
      rw [fr_bind F hF { a with s := c.1 } ha]
  rw [h1, ck_eq]
  unfold clB
  simp only [Option.bind_assoc]
  refine obind fun h hh => obind fun l1 _ => obind fun m hm => obind fun l2 _ => obind fun s hs => ?_
  have b1 := in_in hh
  have b2 := in_in hm
  have b3 := in_in hs
  by_cases hq : 3600 * h.1 + 60 * m.1 + s.1 ≤ 86400
  · rw [if_pos hq, Option.bind_some]
    refine obind fun f hf => ?_
    have b4 := fr_in hf
    by_cases hb : h.1 = 24 ∧ (0 < m.1 ∨ 0 < s.1 ∨ 0 < f.1)
    · rw [if_pos hb]
      refine h24 _ _ ?_ ?_
      · dsimp only; omega
      · dsimp only; omega
    · rw [if_neg hb]
      rfl
  · rw [if_neg hq]
    cases frB s.2 with
    | none => rfl
    | some f =>
      simp only [Option.bind_some, Option.bind_none]
      rw [if_pos (by omega)]
      rfl
end Go.Proofs.YtgaegajcejpmdaaGreatDoor.Dt
namespace Go.Proofs.YtgaegajcejpmdaaGreatDoor.Dt
set_option linter.unusedVariables false

/-- The last field, and what Parse does behind it. -/
def zf (k : Int) (a : Mo) (l : List Int) : Option Mo := (gZn a l).bind fun x => if ¬ (x.s = 86400 ∧ 0 < x.n) then some (addM (if k = 3 then { x with s := x.s.tmod 86400 } else x) ⟨0, 0, 0⟩) else none
theorem zf_dig (k : Int) : ∀ a l, Dig l → zf k a l = none := fun a l h => by unfold zf; rw [zn_dig h]; rfl
theorem zr_eq (l : List Int) : zR l = (inB 0 14 l.tail).bind fun h => (tkB 58 h.2).bind fun l1 => (inB 0 59 l1).bind fun n => if (h.1 = 14 ∧ 0 < n.1) ∨ n.2 ≠ [] then none else some (60 * h.1 + n.1) := by
  unfold zR g3
  simp only [runG, gMk, tkB]
  cases hh : inB 0 14 l.tail with
  | none => rfl
  | some h =>
    simp only [Option.map_some, Option.bind_some]
    split
    · simp only [Option.bind_some]
      cases hm : inB 0 59 h.2.tail with
      | none => rfl
      | some m =>
        simp only [Option.map_some, Option.bind_some]
        have b1 := in_in hh
        have b2 := in_in hm
        by_cases hq : m.2 = [] ∧ 60 * h.1 + m.1 ≤ 840
        · rw [if_pos hq, if_neg (fun p => p.elim (fun p => by omega) (fun p => p hq.1))]
        · rw [if_neg hq, if_pos]
          by_cases he : m.2 = []
          · left; have : ¬ 60 * h.1 + m.1 ≤ 840 := fun p => hq ⟨he, p⟩; omega
          · right; exact he
    · rfl
theorem gz_eq {a : Mo} (hz : a.hz = false) (h0 : a.z = 0) (l : List Int) : gZn a l = (znB l).map fun z => { a with hz := z.1, z := z.2 } := by
  unfold gZn znB
  by_cases hl : l = []
  · rw [if_pos hl, if_pos hl]
    simp only [Option.map_some]
    rw [← hz, ← h0]
  · rw [if_neg hl, if_neg hl]
    by_cases h9 : l = [90]
    · subst h9
      simp [h0]
    · rw [if_neg h9]
      by_cases hh : l.head? = some 90
      · rw [if_pos hh]
        have ht : l.tail ≠ [] := by
          intro q
          apply h9
          cases l with
          | nil => cases hh
          | cons c l => simp at hh q; rw [hh, q]
        rw [if_neg ht]
        cases hz2 : zR l with
        | none => rfl
        | some z =>
          rw [Option.bind_some, hh]
          simp
      · rw [if_neg hh, zr_eq]
        by_cases h4 : l.head? = some 45
        · rw [if_pos (Or.inl h4)]
          simp only [h4]
          cases inB 0 14 l.tail with
          | none => rfl
          | some h =>
            simp only [Option.bind_some]
            cases tkB 58 h.2 with
            | none => rfl
            | some l1 =>
              simp only [Option.bind_some]
              cases inB 0 59 l1 with
              | none => rfl
              | some n =>
                simp only [Option.bind_some]
                split <;> simp
        · by_cases h5 : l.head? = some 43
          · rw [if_pos (Or.inr h5)]
            simp only [h5]
            cases inB 0 14 l.tail with
            | none => rfl
            | some h =>
              simp only [Option.bind_some]
              cases tkB 58 h.2 with
              | none => rfl
              | some l1 =>
                simp only [Option.bind_some]
                cases inB 0 59 l1 with
                | none => rfl
                | some n =>
                  simp only [Option.bind_some]
                  split <;> simp
          · rw [if_neg (fun q => q.elim h4 h5)]
            simp only [Option.map_none]
            cases ((inB 0 14 l.tail).bind fun h => (tkB 58 h.2).bind fun l1 => (inB 0 59 l1).bind fun n => if (h.1 = 14 ∧ 0 < n.1) ∨ n.2 ≠ [] then none else some (60 * h.1 + n.1)) with
            | none => rfl
            | some z => rw [Option.bind_some, if_neg h4, if_neg h5]
/-- What has been read ahead of the zone. -/
structure Rdd (k : Int) (a : Mo) : Prop where
  y : a.y ≠ 0
  m0 : 1 ≤ a.m
  m1 : a.m ≤ 12
  d0 : 1 ≤ a.d
  d1 : a.d ≤ lenL (lnY a.y) a.m
  s0 : 0 ≤ a.s
  s1 : a.s ≤ 86400
  n0 : 0 ≤ a.n
  n1 : a.n < 1000000000
  kk : a.k = k
  ks : k = 1 ∨ k = 3 ∨ a.s = 0
  z : a.hz = false
  z0 : a.z = 0
theorem add_none {a : Mo} (h : MoOk a) : addM a ⟨0, 0, 0⟩ = a := by
  have e := add_days h 0
  refine mo_ext (MoOk.add _ _) h rfl ?_ ?_ ?_ rfl rfl
  · have := e.2.2; simpa using this
  · have := e.1; simpa using this
  · have := e.2.1; simpa using this
theorem nx_eq {k : Int} {a : Mo} (h : Rdd k a) (hn : ¬ (a.s = 86400 ∧ 0 < a.n)) (z : Bool × Int) : addM (if k = 3 then { ({ a with hz := z.1, z := z.2 } : Mo) with s := a.s.tmod 86400 } else { a with hz := z.1, z := z.2 }) ⟨0, 0, 0⟩ = nxM { a with hz := z.1, z := z.2 } := by
  obtain ⟨hy, m0, m1, d0, d1, s0, s1, n0, n1, kk, ks, hz, hz0⟩ := h
  obtain ⟨ka, y, m, d, s, n, hzz, zz⟩ := a
  dsimp only at *
  subst kk
  by_cases h24 : s = 86400
  · subst h24
    have hn0 : n = 0 := by omega
    subst hn0
    by_cases h3 : ka = 3
    · rw [if_pos h3]
      have e : (86400 : Int).tmod 86400 = 0 := by decide
      rw [e, add_none ⟨hy, m0, m1, d0, d1, by simp, by simp, by simp, by simp⟩]
      unfold nxM
      rw [if_pos rfl, if_neg (by dsimp only; omega)]
    · rw [if_neg h3]
      have h1 : ka = 1 := by omega
      subst h1
      obtain ⟨e1, e2, e3, e4⟩ := add_same (a := ⟨1, y, m, d, 86400, 0, z.1, z.2⟩) (s := 0) (n := 0) hy m0 m1 d1
      have hT : addT ⟨1, y, m, d, 86400, 0, z.1, z.2⟩ ⟨0, 0, 0⟩ = 86400 := by unfold addT; simp
      have hN : addN ⟨1, y, m, d, 86400, 0, z.1, z.2⟩ ⟨0, 0, 0⟩ = daysS y m d + 1 := by unfold addN; rw [e4, e2, e3, hT]; rfl
      unfold addM nxM
      rw [if_pos rfl, if_pos rfl, hN, hT]
      rfl
  · have hok : MoOk ⟨ka, y, m, d, s, n, z.1, z.2⟩ := ⟨hy, m0, m1, d0, d1, s0, by dsimp only; omega, n0, n1⟩
    have hE : (if ka = 3 then ({ k := ka, y := y, m := m, d := d, s := s.tmod 86400, n := n, hz := z.1, z := z.2 } : Mo) else { k := ka, y := y, m := m, d := d, s := s, n := n, hz := z.1, z := z.2 }) = ⟨ka, y, m, d, s, n, z.1, z.2⟩ := by
      have ht : s.tmod 86400 = s := by rw [tmod_pos (by omega) (by rw [Int.tmod_eq_emod_of_nonneg s0]; omega)]; omega
      rw [ht]
      split <;> rfl
    rw [hE, add_none hok]
    unfold nxM
    rw [if_neg h24]
theorem zf_eq {k : Int} {a : Mo} (h : Rdd k a) (l : List Int) : zf k a l = if a.s = 86400 ∧ 0 < a.n then none else (znB l).map fun z => nxM { a with hz := z.1, z := z.2 } := by
  unfold zf
  rw [gz_eq h.z h.z0]
  by_cases hb : a.s = 86400 ∧ 0 < a.n
  · rw [if_pos hb]
    cases znB l with
    | none => rfl
    | some z =>
      simp only [Option.map_some, Option.bind_some]
      rw [if_neg (by simpa using hb)]
  · rw [if_neg hb]
    cases znB l with
    | none => rfl
    | some z =>
      simp only [Option.map_some, Option.bind_some]
      rw [if_pos hb, nx_eq h hb z]
theorem zf_24 (k : Int) : ∀ a l, a.s = 86400 → 0 < a.n → zf k a l = none := fun a l h1 h2 => by
  unfold zf
  have : ∀ x, gZn a l = some x → x.s = a.s ∧ x.n = a.n := by
    intro x hx
    unfold gZn at hx
    split at hx
    · cases hx; exact ⟨rfl, rfl⟩
    · split at hx
      · cases hx; exact ⟨rfl, rfl⟩
      · obtain ⟨z, _, hx⟩ := Option.bind_eq_some_iff.1 hx
        split at hx
        · cases hx; exact ⟨rfl, rfl⟩
        · split at hx
          · cases hx; exact ⟨rfl, rfl⟩
          · cases hx
  cases hg : gZn a l with
  | none => rfl
  | some x =>
    obtain ⟨e1, e2⟩ := this x hg
    rw [Option.bind_some, if_neg (by rw [e1, e2]; simp [h1, h2])]
/-- The rows of fields with the last one and Parse's end. -/
theorem run_app {σ : Type} (gs : List (Gd σ)) (g : Gd σ) : ∀ (a : σ) (l : List Int), runG (gs ++ [g]) a l = (runG gs a l).bind fun x => g x.1 x.2 := by
  induction gs with
  | nil => intro a l; simp only [List.nil_append, runG, Option.bind_some]; cases g a l <;> rfl
  | cons h gs ih => intro a l; simp only [List.cons_append, runG, Option.bind_assoc]; exact obind fun x _ => ih x.1 x.2
theorem pa_zf {k : Int} {gs : List (Gd Mo)} (h : gK k = gs ++ [gZ]) (l : List Int) : paG k l = (runG gs (a0 k) l).bind fun x => zf k x.1 x.2 := by
  unfold paG
  rw [h, run_app, Option.bind_assoc]
  refine obind fun x _ => ?_
  unfold gZ zf
  cases gZn x.1 x.2 with
  | none => rfl
  | some y => simp
theorem mk_dig {σ : Type} {a : σ} {l : List Int} (h : Dig l) {c : Int} (hc : isD c = false) : gMk c a l = none := by unfold gMk; rw [if_neg (dig_ne h hc)]
theorem zf_fin {k y m d s n : Int} (hy : y ≠ 0) (m0 : 1 ≤ m) (m1 : m ≤ 12) (d0 : 1 ≤ d) (d1 : d ≤ lenL (lnY y) m) (s0 : 0 ≤ s) (s1 : s ≤ 86400) (n0 : 0 ≤ n) (n1 : n < 1000000000) (h24 : s = 86400 → n = 0) (ks : k = 1 ∨ k = 3 ∨ s = 0) (l : List Int) : zf k ⟨k, y, m, d, s, n, false, 0⟩ l = (znB l).map fun z => nxM ⟨k, y, m, d, s, n, z.1, z.2⟩ := by
  rw [zf_eq (k := k) (a := ⟨k, y, m, d, s, n, false, 0⟩) ⟨hy, m0, m1, d0, d1, s0, s1, n0, n1, rfl, ks, rfl, rfl⟩, if_neg (by dsimp only; omega)]
theorem pr_1 (l : List Int) : prM 1 l = (yrB l).bind fun v1 => (tkB 45 v1.2).bind fun v2 => (inB 1 12 v2).bind fun v3 => (tkB 45 v3.2).bind fun v4 => (inB 1 (lenL (lnY v1.1) v3.1) v4).bind fun v5 => (tkB 84 v5.2).bind fun v6 => (clB v6).bind fun v7 => (znB v7.2).map fun z => nxM ⟨1, v1.1, v3.1, v5.1, v7.1.1, v7.1.2, z.1, z.2⟩ := by
  unfold prM ftB mnB dyB ckB
  simp [Option.bind_assoc]
theorem pa_1 (l : List Int) : paG 1 l = prM 1 l := by
  rw [pr_1, pa_zf (k := 1) (gs := [gYr, gMk 45, gMo, gMk 45, gDy, gMk 84, gCl, gFr]) rfl]
  simp only [runG, Option.bind_assoc, Option.bind_some]
  refine (yr_bind (fun a l => (gMk 45 a l).bind fun x => (gMo x.1 x.2).bind fun x => (gMk 45 x.1 x.2).bind fun x => (gDy x.1 x.2).bind fun x => (gMk 84 x.1 x.2).bind fun x => (gCl x.1 x.2).bind fun x => (gFr x.1 x.2).bind fun x => zf 1 x.1 x.2) (fun a l h => by rw [mk_dig h (by decide)]; rfl) _ _).trans (obind fun v1 h1 => ?_)
  refine (mk_bind 45 (fun a l => (gMo a l).bind fun x => (gMk 45 x.1 x.2).bind fun x => (gDy x.1 x.2).bind fun x => (gMk 84 x.1 x.2).bind fun x => (gCl x.1 x.2).bind fun x => (gFr x.1 x.2).bind fun x => zf 1 x.1 x.2) _ _).trans (obind fun v2 h2 => ?_)
  refine (mo_bind (fun a l => (gMk 45 a l).bind fun x => (gDy x.1 x.2).bind fun x => (gMk 84 x.1 x.2).bind fun x => (gCl x.1 x.2).bind fun x => (gFr x.1 x.2).bind fun x => zf 1 x.1 x.2) _ _).trans (obind fun v3 h3 => ?_)
  refine (mk_bind 45 (fun a l => (gDy a l).bind fun x => (gMk 84 x.1 x.2).bind fun x => (gCl x.1 x.2).bind fun x => (gFr x.1 x.2).bind fun x => zf 1 x.1 x.2) _ _).trans (obind fun v4 h4 => ?_)
  refine (dy_bind (fun a l => (gMk 84 a l).bind fun x => (gCl x.1 x.2).bind fun x => (gFr x.1 x.2).bind fun x => zf 1 x.1 x.2) _ _).trans (obind fun v5 h5 => ?_)
  refine (mk_bind 84 (fun a l => (gCl a l).bind fun x => (gFr x.1 x.2).bind fun x => zf 1 x.1 x.2) _ _).trans (obind fun v6 h6 => ?_)
  refine (cl_bind (zf 1) (zf_dig 1) (zf_24 1) _ rfl _).trans (obind fun v7 h7 => ?_)
  obtain ⟨c0, c1, c2, c3, c4⟩ := cl_in h7
  exact zf_fin (k := 1) (y := v1.1) (m := v3.1) (d := v5.1) (yr_in h1).1 (in_in h3).1 (in_in h3).2 (in_in h5).1 (in_in h5).2 c0 c1 c2 c3 c4 (by simp) _
theorem pr_2 (l : List Int) : prM 2 l = (yrB l).bind fun v1 => (tkB 45 v1.2).bind fun v2 => (inB 1 12 v2).bind fun v3 => (tkB 45 v3.2).bind fun v4 => (inB 1 (lenL (lnY v1.1) v3.1) v4).bind fun v5 => (znB v5.2).map fun z => nxM ⟨2, v1.1, v3.1, v5.1, 0, 0, z.1, z.2⟩ := by
  unfold prM ftB mnB dyB ckB
  simp [Option.bind_assoc]
theorem pa_2 (l : List Int) : paG 2 l = prM 2 l := by
  rw [pr_2, pa_zf (k := 2) (gs := [gYr, gMk 45, gMo, gMk 45, gDy]) rfl]
  simp only [runG, Option.bind_assoc, Option.bind_some]
  refine (yr_bind (fun a l => (gMk 45 a l).bind fun x => (gMo x.1 x.2).bind fun x => (gMk 45 x.1 x.2).bind fun x => (gDy x.1 x.2).bind fun x => zf 2 x.1 x.2) (fun a l h => by rw [mk_dig h (by decide)]; rfl) _ _).trans (obind fun v1 h1 => ?_)
  refine (mk_bind 45 (fun a l => (gMo a l).bind fun x => (gMk 45 x.1 x.2).bind fun x => (gDy x.1 x.2).bind fun x => zf 2 x.1 x.2) _ _).trans (obind fun v2 h2 => ?_)
  refine (mo_bind (fun a l => (gMk 45 a l).bind fun x => (gDy x.1 x.2).bind fun x => zf 2 x.1 x.2) _ _).trans (obind fun v3 h3 => ?_)
  refine (mk_bind 45 (fun a l => (gDy a l).bind fun x => zf 2 x.1 x.2) _ _).trans (obind fun v4 h4 => ?_)
  refine (dy_bind (fun a l => zf 2 a l) _ _).trans (obind fun v5 h5 => ?_)
  exact zf_fin (k := 2) (y := v1.1) (m := v3.1) (d := v5.1) (yr_in h1).1 (in_in h3).1 (in_in h3).2 (in_in h5).1 (in_in h5).2 (by simp) (by simp) (by simp) (by simp) (by simp) (by simp) _
theorem pr_3 (l : List Int) : prM 3 l = (clB l).bind fun v1 => (znB v1.2).map fun z => nxM ⟨3, 2000, 1, 1, v1.1.1, v1.1.2, z.1, z.2⟩ := by
  unfold prM ftB mnB dyB ckB
  simp
theorem pa_3 (l : List Int) : paG 3 l = prM 3 l := by
  rw [pr_3, pa_zf (k := 3) (gs := [gCl, gFr]) rfl]
  simp only [runG, Option.bind_assoc, Option.bind_some]
  refine (cl_bind (zf 3) (zf_dig 3) (zf_24 3) _ rfl _).trans (obind fun v1 h1 => ?_)
  obtain ⟨c0, c1, c2, c3, c4⟩ := cl_in h1
  exact zf_fin (k := 3) (y := 2000) (m := 1) (d := 1) (by simp) (by simp) (by simp) (by simp) (by have := (len_in (l := lnY (2000)) (m := 1) (by simp) (by simp)).1; omega) c0 c1 c2 c3 c4 (by simp) _
theorem pr_4 (l : List Int) : prM 4 l = (yrB l).bind fun v1 => (tkB 45 v1.2).bind fun v2 => (inB 1 12 v2).bind fun v3 => (znB v3.2).map fun z => nxM ⟨4, v1.1, v3.1, 1, 0, 0, z.1, z.2⟩ := by
  unfold prM ftB mnB dyB ckB
  simp [Option.bind_assoc]
theorem pa_4 (l : List Int) : paG 4 l = prM 4 l := by
  rw [pr_4, pa_zf (k := 4) (gs := [gYr, gMk 45, gMo]) rfl]
  simp only [runG, Option.bind_assoc, Option.bind_some]
  refine (yr_bind (fun a l => (gMk 45 a l).bind fun x => (gMo x.1 x.2).bind fun x => zf 4 x.1 x.2) (fun a l h => by rw [mk_dig h (by decide)]; rfl) _ _).trans (obind fun v1 h1 => ?_)
  refine (mk_bind 45 (fun a l => (gMo a l).bind fun x => zf 4 x.1 x.2) _ _).trans (obind fun v2 h2 => ?_)
  refine (mo_bind (fun a l => zf 4 a l) _ _).trans (obind fun v3 h3 => ?_)
  exact zf_fin (k := 4) (y := v1.1) (m := v3.1) (d := 1) (yr_in h1).1 (in_in h3).1 (in_in h3).2 (by simp) (by have := (len_in (l := lnY (v1.1)) (m := v3.1) (in_in h3).1 (in_in h3).2).1; omega) (by simp) (by simp) (by simp) (by simp) (by simp) (by simp) _
theorem pr_5 (l : List Int) : prM 5 l = (yrB l).bind fun v1 => (znB v1.2).map fun z => nxM ⟨5, v1.1, 1, 1, 0, 0, z.1, z.2⟩ := by
  unfold prM ftB mnB dyB ckB
  simp
theorem pa_5 (l : List Int) : paG 5 l = prM 5 l := by
  rw [pr_5, pa_zf (k := 5) (gs := [gYr]) rfl]
  simp only [runG, Option.bind_assoc, Option.bind_some]
  refine (yr_bind (fun a l => zf 5 a l) (zf_dig 5) _ _).trans (obind fun v1 h1 => ?_)
  exact zf_fin (k := 5) (y := v1.1) (m := 1) (d := 1) (yr_in h1).1 (by simp) (by simp) (by simp) (by have := (len_in (l := lnY (v1.1)) (m := 1) (by simp) (by simp)).1; omega) (by simp) (by simp) (by simp) (by simp) (by simp) (by simp) _
theorem pr_6 (l : List Int) : prM 6 l = (tkB 45 l).bind fun v1 => (tkB 45 v1).bind fun v2 => (inB 1 12 v2).bind fun v3 => (tkB 45 v3.2).bind fun v4 => (inB 1 (lenL (lnY 2000) v3.1) v4).bind fun v5 => (znB v5.2).map fun z => nxM ⟨6, 2000, v3.1, v5.1, 0, 0, z.1, z.2⟩ := by
  unfold prM ftB mnB dyB ckB
  simp [Option.bind_assoc, Option.bind_map, Function.comp_def]
theorem pa_6 (l : List Int) : paG 6 l = prM 6 l := by
  rw [pr_6, pa_zf (k := 6) (gs := [gMk 45, gMk 45, gMo, gMk 45, gDy]) rfl]
  simp only [runG, Option.bind_assoc, Option.bind_some]
  refine (mk_bind 45 (fun a l => (gMk 45 a l).bind fun x => (gMo x.1 x.2).bind fun x => (gMk 45 x.1 x.2).bind fun x => (gDy x.1 x.2).bind fun x => zf 6 x.1 x.2) _ _).trans (obind fun v1 h1 => ?_)
  refine (mk_bind 45 (fun a l => (gMo a l).bind fun x => (gMk 45 x.1 x.2).bind fun x => (gDy x.1 x.2).bind fun x => zf 6 x.1 x.2) _ _).trans (obind fun v2 h2 => ?_)
  refine (mo_bind (fun a l => (gMk 45 a l).bind fun x => (gDy x.1 x.2).bind fun x => zf 6 x.1 x.2) _ _).trans (obind fun v3 h3 => ?_)
  refine (mk_bind 45 (fun a l => (gDy a l).bind fun x => zf 6 x.1 x.2) _ _).trans (obind fun v4 h4 => ?_)
  refine (dy_bind (fun a l => zf 6 a l) _ _).trans (obind fun v5 h5 => ?_)
  exact zf_fin (k := 6) (y := 2000) (m := v3.1) (d := v5.1) (by simp) (in_in h3).1 (in_in h3).2 (in_in h5).1 (in_in h5).2 (by simp) (by simp) (by simp) (by simp) (by simp) (by simp) _
theorem pr_7 (l : List Int) : prM 7 l = (tkB 45 l).bind fun v1 => (tkB 45 v1).bind fun v2 => (tkB 45 v2).bind fun v3 => (inB 1 (31) v3).bind fun v4 => (znB v4.2).map fun z => nxM ⟨7, 2000, 1, v4.1, 0, 0, z.1, z.2⟩ := by
  unfold prM ftB mnB dyB ckB
  simp [Option.bind_assoc, Option.bind_map, Function.comp_def]
theorem pa_7 (l : List Int) : paG 7 l = prM 7 l := by
  rw [pr_7, pa_zf (k := 7) (gs := [gMk 45, gMk 45, gMk 45, gDy]) rfl]
  simp only [runG, Option.bind_assoc, Option.bind_some]
  refine (mk_bind 45 (fun a l => (gMk 45 a l).bind fun x => (gMk 45 x.1 x.2).bind fun x => (gDy x.1 x.2).bind fun x => zf 7 x.1 x.2) _ _).trans (obind fun v1 h1 => ?_)
  refine (mk_bind 45 (fun a l => (gMk 45 a l).bind fun x => (gDy x.1 x.2).bind fun x => zf 7 x.1 x.2) _ _).trans (obind fun v2 h2 => ?_)
  refine (mk_bind 45 (fun a l => (gDy a l).bind fun x => zf 7 x.1 x.2) _ _).trans (obind fun v3 h3 => ?_)
  refine (dy_bind (fun a l => zf 7 a l) _ _).trans (obind fun v4 h4 => ?_)
  exact zf_fin (k := 7) (y := 2000) (m := 1) (d := v4.1) (by simp) (by simp) (by simp) (in_in h4).1 (in_in h4).2 (by simp) (by simp) (by simp) (by simp) (by simp) (by simp) _
theorem pr_8 (l : List Int) : prM 8 l = (tkB 45 l).bind fun v1 => (tkB 45 v1).bind fun v2 => (inB 1 12 v2).bind fun v3 => (znB v3.2).map fun z => nxM ⟨8, 2000, v3.1, 1, 0, 0, z.1, z.2⟩ := by
  unfold prM ftB mnB dyB ckB
  simp [Option.bind_assoc, Option.bind_map, Function.comp_def]
theorem pa_8 (l : List Int) : paG 8 l = prM 8 l := by
  rw [pr_8, pa_zf (k := 8) (gs := [gMk 45, gMk 45, gMo]) rfl]
  simp only [runG, Option.bind_assoc, Option.bind_some]
  refine (mk_bind 45 (fun a l => (gMk 45 a l).bind fun x => (gMo x.1 x.2).bind fun x => zf 8 x.1 x.2) _ _).trans (obind fun v1 h1 => ?_)
  refine (mk_bind 45 (fun a l => (gMo a l).bind fun x => zf 8 x.1 x.2) _ _).trans (obind fun v2 h2 => ?_)
  refine (mo_bind (fun a l => zf 8 a l) _ _).trans (obind fun v3 h3 => ?_)
  exact zf_fin (k := 8) (y := 2000) (m := v3.1) (d := 1) (by simp) (in_in h3).1 (in_in h3).2 (by simp) (by have := (len_in (l := lnY (2000)) (m := v3.1) (in_in h3).1 (in_in h3).2).1; omega) (by simp) (by simp) (by simp) (by simp) (by simp) (by simp) _
theorem pa_pr {k : Int} (h1 : 1 ≤ k) (h8 : k ≤ 8) (l : List Int) : paG k l = prM k l := by
  have hcases : k = 1 ∨ k = 2 ∨ k = 3 ∨ k = 4 ∨ k = 5 ∨ k = 6 ∨ k = 7 ∨ k = 8 := by omega
  rcases hcases with rfl | rfl | rfl | rfl | rfl | rfl | rfl | rfl
  · exact pa_1 l
  · exact pa_2 l
  · exact pa_3 l
  · exact pa_4 l
  · exact pa_5 l
  · exact pa_6 l
  · exact pa_7 l
  · exact pa_8 l
end Go.Proofs.YtgaegajcejpmdaaGreatDoor.Dt
namespace Go.Proofs.YtgaegajcejpmdaaGreatDoor.Dt
open Go.RowKit
set_option linter.unusedVariables false

abbrev wr (x : Int) : Int := wrap64 x
/-- One number in a box of its own. -/
structure St1 (H : Nat) (x : Int) (W : World) : Prop where
  a : W.heap[H]? = some (.cells #[.int .i64 x] 3 (0, 0))
  a0 : -1000000000 < x ∧ x < 1000000000
theorem St1.s1 (H : Nat) : CellSt (St1 H) H 0 (fun x n => n) := by
  intro x W h
  refine ⟨_, _, _, h.a, rfl, fun n W' n0 n1 hx hf => ⟨hx, ⟨n0, n1⟩⟩⟩
/-- part: a number with that letter. -/
def ptG (c : Int) (l : List Int) : Option (Int × List Int) := if 0 < dk 9 l ∧ (l.drop (dk 9 l)).head? = some c then some (dvl (l.take (dk 9 l)), (l.drop (dk 9 l)).tail) else none
def gP2 (c : Int) : List (Gd Int) := [fun a l => if 0 < dk 9 l then some (dvl (l.take (dk 9 l)), l.drop (dk 9 l)) else none, gMk c]
theorem pt_run (c : Int) (l : List Int) (a : Int) : runG (gP2 c) a l = ptG c l := by
  unfold gP2 ptG
  simp only [runG, gMk]
  by_cases h : 0 < dk 9 l
  · rw [if_pos h, Option.bind_some]
    by_cases h' : (l.drop (dk 9 l)).head? = some c
    · rw [if_pos h', if_pos ⟨h, h'⟩]; rfl
    · rw [if_neg h', if_neg (fun q => h' q.2)]; rfl
  · rw [if_neg h, if_neg (fun q => h q.1)]; rfl
/-- part's own read. -/
theorem part_w {V0 w1 w2 : World} {p1 p2 H : Nat} {c : UInt8} (h1 : MkB V0 w1 p1 (.pointer (some ⟨H, 0, none⟩)) 167) (h2 : MkB w1 w2 p2 (.string ⟨#[c]⟩) 9) (hst : St1 H 0 V0) (hH : H + 1 ≤ V0.heap.size) (r : ByteArray) (hr : r.size ≤ maxLen) :
    Calls Tryz.prog 154 #[.string r, .slice (some ⟨w2.heap.size, 0, none⟩) 2 2] (w2.alloc (.cells #[fnV (209, #[pt p1]), fnV (187, #[pt p2])] 138)) fun e w6 => ∃ (t' : ByteArray) (b : Bool) (n : Int), e = .returned (.tuple #[.string t', .bool b]) ∧ (Fro (fun k => k = H) V0 w6 ∧ St1 H n w6 ∧ t'.size ≤ r.size ∧ (b = true → ptG (c.toNat : Int) (bl r) = some (n, bl t')) ∧ (b = false → ptG (c.toNat : Int) (bl r) = none)) := by
  obtain ⟨U, hU⟩ : ∃ U, (w2.alloc (.cells #[fnV (209, #[pt p1]), fnV (187, #[pt p2])] 138)) = U := ⟨_, rfl⟩
  rw [hU]
  have u2 : Below w2.heap.size w2 U := by rw [← hU]; exact (Below.refl _ _).alloc (Nat.le_refl _) _
  have hUx : U.heap[w2.heap.size]? = some (.cells #[fnV (209, #[pt p1]), fnV (187, #[pt p2])] 138 (0, 0)) := by rw [← hU]; exact nw_heap _ _
  clear hU
  have u1 := bl_step h2.bl u2
  have u0 := bl_step h1.bl u1
  have s1 := h1.bl.size
  have s2 := h2.bl.size
  have hl1 := h1.l
  have hfc : FCs U (fun k => k = H) (St1 H) [(209, #[pt p1]), (187, #[pt p2])] (gP2 (c.toNat : Int)) :=
    .cons (fc_num (O := fun k => k = H) p1 H 0 _ (h1.at u1) (by omega) rfl (St1.s1 H)) (.cons (h2.fc u2 (by omega)) .nil)
  have hst' : St1 H 0 U := ⟨(u0.block _ (lt_of hst.a)).trans hst.a, hst.a0⟩
  refine Calls.mono (read_p hfc w2.heap.size hUx (by omega) (by simp) U 0 r (Fro.refl _ _) hst' hr) ?_
  rintro e w6 ⟨t', b, n, rfl, hfr, hst6, hts, hm⟩
  rw [pt_run] at hm
  refine ⟨t', b, n, rfl, (Fro.below u0).trans' hfr (fun i hi q => q), hst6, hts, ?_, ?_⟩
  · intro hb
    cases hg : ptG (c.toNat : Int) (bl r) with
    | none => rw [hg] at hm; rw [hm.1] at hb; cases hb
    | some x => rw [hg] at hm; obtain ⟨_, hx, hy⟩ := hm; rw [hx, hy]
  · intro hb
    cases hg : ptG (c.toNat : Int) (bl r) with
    | none => rfl
    | some x => rw [hg] at hm; rw [hm.1] at hb; cases hb
/-- What a call of part gives. -/
def PtP (s : ByteArray) (c : Int) (unit x : Int) (D off : Nat) (W : World) (cs : Array Value) (t : TypeId) (e : Ending) (W' : World) : Prop :=
  ∃ t' : ByteArray, e = .returned (.tuple #[.string t', .bool true]) ∧ t'.size ≤ s.size ∧ Fro (fun k => k = D) W W' ∧ (match ptG c (bl s) with | some y => W'.heap[D]? = some (.cells (cs.setIfInBounds off (.int .i64 (wr (x + y.1 * unit)))) t (0, 0)) ∧ bl t' = y.2 | none => W'.heap[D]? = some (.cells cs t (0, 0)) ∧ t' = s)
set_option maxHeartbeats 1000000 in
theorem part_c (s : ByteArray) (b1 b2 b3 D off : Nat) (c : UInt8) (unit x : Int) (W : World) (cs : Array Value) (t : TypeId) (h1 : W.heap[b1]? = some (.cells #[.string ⟨#[c]⟩] 9 (0, 0))) (h2 : W.heap[b2]? = some (.cells #[.pointer (some ⟨D, off, none⟩)] 167 (0, 0))) (h3 : W.heap[b3]? = some (.cells #[.int .i64 unit] 3 (0, 0)))
    (hD : W.heap[D]? = some (.cells cs t (0, 0))) (hv : cs[off]? = some (.int .i64 x)) (n2 : D ≠ b2) (n3 : D ≠ b3) (u0 : 0 ≤ unit) (u1 : unit ≤ 86400) (hs : s.size ≤ maxLen) :
    Calls Tryz.prog 184 #[.string s, pt b1, pt b2, pt b3] W (PtP s (c.toNat : Int) unit x D off W cs t) := by
  have HH : Hid _ := And.intro h1 (And.intro h2 (And.intro h3 (And.intro hD hv)))
  have hb1l := lt_of h1
  have hb2l := lt_of h2
  have hb3l := lt_of h3
  have hDl := lt_of hD
  clear h1 h2 h3 hD hv
  have hN := nw_heap W (.cells #[.int .i64 0] 3)
  have hB0 : Below W.heap.size W (W.alloc (.cells #[.int .i64 0] 3)) := (Below.refl _ _).alloc (Nat.le_refl _) _
  have hsU : (W.alloc (.cells #[.int .i64 0] 3)).heap.size = W.heap.size + 1 := by simp
  go_enter Tryz.func184, Tryz.ntmps184
  go_wp2_with fail
  generalize (W.alloc (.cells #[.int .i64 0] 3)) = U0 at *
  have hst0 : St1 W.heap.size 0 U0.drew := ⟨hN, by simp⟩
  have hsD : W.heap.size + 1 ≤ U0.drew.heap.size := by show W.heap.size + 1 ≤ U0.heap.size; omega
  have HZ : Hid _ := And.intro hst0 (And.intro hsD (And.intro hB0 (And.intro hs trivial)))
  have g1 : U0.drew.cell? ⟨b1, 0, none⟩ = some (.string ⟨#[c]⟩) := cl1 ((hB0.block _ hb1l).trans HH.out.1)
  clear hst0 hsD hB0 hN hsU
  go_region_held3 (fun X => X.cell? ⟨b1, 0, none⟩ = some (.string ⟨#[c]⟩)) (first | exact g1 | exact g1' | fail) (first
    | (go_at_call 185; (with_reducible refine Calls.mono (mk_num _ _) ?_); rintro e w1 ⟨p1, rfl, l2, x2, b2'⟩; have H1 : Hid _ := And.intro (MkB.mk l2 x2 b2') (HZ.out.2.2.1.trans ((below_drewN 1).trans b2' |>.mono HZ.out.2.2.1.size)); clear l2 x2 b2' g1; have g1 : w1.cell? ⟨b1, 0, none⟩ = some (.string ⟨#[c]⟩) := cl1 ((H1.out.2.block _ hb1l).trans HH.out.1))
    | (go_at_call 159; (with_reducible refine Calls.mono (mark_m _ _) ?_); rintro e w2 ⟨p2, rfl, h2⟩; have H2 : Hid _ := And.intro h2 (H1.out.2.trans (h2.bl.mono H1.out.2.size)); clear h2 g1; have g1 : w2.cell? ⟨b1, 0, none⟩ = some (.string ⟨#[c]⟩) := cl1 ((H2.out.2.block _ hb1l).trans HH.out.1); have g1' : (w2.alloc (.cells #[fnV (209, #[pt p1]), fnV (187, #[pt p2])] 138)).cell? ⟨b1, 0, none⟩ = some (.string ⟨#[c]⟩) := (Below.cell (p := ⟨b1, 0, none⟩) ((Below.refl w2.heap.size w2).alloc (Nat.le_refl _) _) (Nat.lt_of_lt_of_le hb1l H2.out.2.size)).trans g1)
    | (go_at_call 154; (refine Calls.mono (part_w H1.out.1 H2.out.1 HZ.out.1 HZ.out.2.1 _ HZ.out.2.2.2.1) ?_); rintro e w6 ⟨t', b, n, rfl, h8⟩; have H8 : Hid _ := And.intro h8 trivial; clear g1; have g1 : w6.cell? ⟨b1, 0, none⟩ = some (.string ⟨#[c]⟩) := cl1 (h8.1.at (show U0.drew.heap[b1]? = _ from (HZ.out.2.2.1.block _ hb1l).trans HH.out.1) (by omega)); clear h8)
    | fail)
  obtain ⟨hfr, hst, hts, hT, hF⟩ := H8.out.1
  have frW : Fro (fun k => k = W.heap.size) W w6 := (Fro.below (O := fun k => k = W.heap.size) HZ.out.2.2.1).trans (show Fro (fun k => k = W.heap.size) U0 w6 from ⟨hfr.os, hfr.tape, hfr.output, hfr.size, hfr.block⟩)
  have fr6 : Fro (fun k => k = D) W w6 := ⟨frW.os, frW.tape, frW.output, frW.size, fun k hk _ => frW.block k hk (by omega)⟩
  have x6 : w6.heap[D]? = some (.cells cs t (0, 0)) := frW.at HH.out.2.2.2.1 (by omega)
  have y2 := cl1 (frW.at HH.out.2.1 (by omega))
  have y3 := cl1 (frW.at HH.out.2.2.1 (by omega))
  have y1 := cl1 hst.a
  obtain ⟨cD, fD⟩ := cl_at x6 HH.out.2.2.2.2
  obtain ⟨a1, a2⟩ := hst.a0
  have HE : Hid _ := And.intro x6 (And.intro fr6 (And.intro hts (And.intro hT hF)))
  clear hfr frW fr6 x6 hst hts hT hF H1 H2 H8 HZ g1 g1'
  cases b
  · go_wp2_with fail
    go_ret2
    refine ⟨s, rfl, Nat.le_refl _, HE.out.2.1, ?_⟩
    rw [HE.out.2.2.2.2 (by first | rfl | trivial)]
    exact ⟨HE.out.1, rfl⟩
  · have hp : -100000000000000 < n * unit ∧ n * unit < 100000000000000 := by
      have p1 : n * unit ≤ 999999999 * unit := Int.mul_le_mul_of_nonneg_right (by omega) u0
      have p2 : -999999999 * unit ≤ n * unit := Int.mul_le_mul_of_nonneg_right (by omega) u0
      omega
    obtain ⟨hp0, hp1⟩ := hp
    have x7 := bset (i := off) HE.out.1 (.int .i64 (wr (x + n * unit)))
    have f7 := HE.out.2.1.set (X := D) (i := off) (.inl rfl) (.int .i64 (wr (x + n * unit)))
    have HX : Hid _ := And.intro x7 f7
    clear x7 f7
    go_wp2_with fail
    go_region
    all_goals
      go_wp2_with fail
      go_ret2
      refine ⟨t', rfl, HE.out.2.2.1, HX.out.2.drewN 1, ?_⟩
      rw [HE.out.2.2.2.1 (by first | rfl | trivial)]
      exact ⟨HX.out.1, rfl⟩
end Go.Proofs.YtgaegajcejpmdaaGreatDoor.Dt
namespace Go.Proofs.YtgaegajcejpmdaaGreatDoor.Dt
open Go.RowKit
set_option linter.unusedVariables false

theorem en_part : ∀ args w, (callFunc 184 args).run Tryz.prog w = .ok (.enter 184 args) w := enters_of Tryz.func184 (by kernel_rfl) rfl
theorem en_last : ∀ args w, (callFunc 186 args).run Tryz.prog w = .ok (.enter 186 args) w := enters_of Tryz.func186 (by kernel_rfl) rfl
theorem en_span : ∀ args w, (callFunc 155 args).run Tryz.prog w = .ok (.enter 155 args) w := enters_of Tryz.func155 (by kernel_rfl) rfl
structure StS (D : Nat) (p : Sp) (W : World) : Prop where
  x : W.heap[D]? = some (.cells (spC p) 38 (0, 0))
def gPo (c unit : Int) : Gd Sp := fun p l => some (match ptG c l with | some y => ({ p with o := wr (p.o + y.1 * unit) }, y.2) | none => (p, l))
def gPs (c unit : Int) : Gd Sp := fun p l => some (match ptG c l with | some y => ({ p with s := wr (p.s + y.1 * unit) }, y.2) | none => (p, l))
theorem fc_po {U : World} {D b1 b2 b3 : Nat} {c : UInt8} {unit : Int} (h1 : U.heap[b1]? = some (.cells #[.string ⟨#[c]⟩] 9 (0, 0))) (h2 : U.heap[b2]? = some (.cells #[.pointer (some ⟨D, 0, none⟩)] 167 (0, 0))) (h3 : U.heap[b3]? = some (.cells #[.int .i64 unit] 3 (0, 0))) (n1 : D ≠ b1) (n2 : D ≠ b2) (n3 : D ≠ b3) (u0 : 0 ≤ unit) (u1 : unit ≤ 86400) : FC U (fun k => k = D) (StS D) (184, #[pt b1, pt b2, pt b3]) (gPo (c.toNat : Int) unit) := by
  refine ⟨en_part, fun W p s hW hp hs => ?_⟩
  refine Calls.mono (part_c s b1 b2 b3 D 0 c unit p.o W (spC p) 38 (hW.at h1 (fun q => n1 q.symm)) (hW.at h2 (fun q => n2 q.symm)) (hW.at h3 (fun q => n3 q.symm)) hp.x rfl n2 n3 u0 u1 hs) ?_
  rintro e w' ⟨t', rfl, hts, hf, hm⟩
  unfold gPo
  cases hg : ptG (c.toNat : Int) (bl s) with
  | none =>
    rw [hg] at hm
    exact ⟨t', true, p, rfl, fro_in hW hf rfl, ⟨hm.1⟩, hts, rfl, rfl, by rw [hm.2]⟩
  | some y =>
    rw [hg] at hm
    exact ⟨t', true, { p with o := wr (p.o + y.1 * unit) }, rfl, fro_in hW hf rfl, ⟨hm.1⟩, hts, rfl, rfl, hm.2⟩
theorem fc_ps {U : World} {D b1 b2 b3 : Nat} {c : UInt8} {unit : Int} (h1 : U.heap[b1]? = some (.cells #[.string ⟨#[c]⟩] 9 (0, 0))) (h2 : U.heap[b2]? = some (.cells #[.pointer (some ⟨D, 1, none⟩)] 167 (0, 0))) (h3 : U.heap[b3]? = some (.cells #[.int .i64 unit] 3 (0, 0))) (n1 : D ≠ b1) (n2 : D ≠ b2) (n3 : D ≠ b3) (u0 : 0 ≤ unit) (u1 : unit ≤ 86400) : FC U (fun k => k = D) (StS D) (184, #[pt b1, pt b2, pt b3]) (gPs (c.toNat : Int) unit) := by
  refine ⟨en_part, fun W p s hW hp hs => ?_⟩
  refine Calls.mono (part_c s b1 b2 b3 D 1 c unit p.s W (spC p) 38 (hW.at h1 (fun q => n1 q.symm)) (hW.at h2 (fun q => n2 q.symm)) (hW.at h3 (fun q => n3 q.symm)) hp.x rfl n2 n3 u0 u1 hs) ?_
  rintro e w' ⟨t', rfl, hts, hf, hm⟩
  unfold gPs
  cases hg : ptG (c.toNat : Int) (bl s) with
  | none =>
    rw [hg] at hm
    exact ⟨t', true, p, rfl, fro_in hW hf rfl, ⟨hm.1⟩, hts, rfl, rfl, by rw [hm.2]⟩
  | some y =>
    rw [hg] at hm
    exact ⟨t', true, { p with s := wr (p.s + y.1 * unit) }, rfl, fro_in hW hf rfl, ⟨hm.1⟩, hts, rfl, rfl, hm.2⟩
/-! The makers. -/
structure PtB (w w' : World) (b1 b2 b3 : Nat) (v : ByteArray) (p : Option Addr) (unit : Int) : Prop where
  l1 : w.heap.size ≤ b1
  l2 : w.heap.size ≤ b2
  l3 : w.heap.size ≤ b3
  x1 : w'.heap[b1]? = some (.cells #[.string v] 9 (0, 0))
  x2 : w'.heap[b2]? = some (.cells #[.pointer p] 167 (0, 0))
  x3 : w'.heap[b3]? = some (.cells #[.int .i64 unit] 3 (0, 0))
  bl : Below w.heap.size w w'
theorem part_m (v : ByteArray) (unit : Int) (p : Option Addr) (w : World) : Calls Tryz.prog 157 #[.string v, .int .i64 unit, .pointer p] w fun e w' => ∃ b1 b2 b3, e = .returned (fnV (184, #[pt b1, pt b2, pt b3])) ∧ PtB w w' b1 b2 b3 v p unit := by
  have HB : Hid _ := box3' w (.cells #[.string v] 9) (.cells #[.int .i64 unit] 3) (.cells #[.pointer p] 167)
  go_enter Tryz.func157, Tryz.ntmps157
  go_wp2_with fail
  go_ret
  exact ⟨w.heap.size, w.heap.size + 1 + 1, w.heap.size + 1, rfl, Nat.le_refl _, by omega, by omega, HB.out.1, HB.out.2.2.1, HB.out.2.1, HB.out.2.2.2⟩
theorem last_m (p : Option Addr) (w : World) : Calls Tryz.prog 158 #[.pointer p] w fun e w' => ∃ b, e = .returned (fnV (186, #[pt b])) ∧ MkB w w' b (.pointer p) 140 := by
  go_enter Tryz.func158, Tryz.ntmps158
  go_wp2_with fail
  go_ret
  exact ⟨w.heap.size, rfl, Nat.le_refl _, nw_heap _ _, (Below.refl _ _).alloc (Nat.le_refl _) _⟩
theorem span_m (p : Option Addr) (w : World) : Calls Tryz.prog 114 #[.pointer p] w fun e w' => ∃ b, e = .returned (fnV (155, #[pt b])) ∧ MkB w w' b (.pointer p) 140 := by
  go_enter Tryz.func114, Tryz.ntmps114
  go_wp2_with fail
  go_ret
  exact ⟨w.heap.size, rfl, Nat.le_refl _, nw_heap _ _, (Below.refl _ _).alloc (Nat.le_refl _) _⟩
theorem PtB.fo {w w' U : World} {b1 b2 b3 D : Nat} {c : UInt8} {unit : Int} (h : PtB w w' b1 b2 b3 ⟨#[c]⟩ (some ⟨D, 0, none⟩) unit) (hU : Below w'.heap.size w' U) (hD : D < w.heap.size) (u0 : 0 ≤ unit) (u1 : unit ≤ 86400) : FC U (fun k => k = D) (StS D) (184, #[pt b1, pt b2, pt b3]) (gPo (c.toNat : Int) unit) :=
  fc_po ((hU.block _ (lt_of h.x1)).trans h.x1) ((hU.block _ (lt_of h.x2)).trans h.x2) ((hU.block _ (lt_of h.x3)).trans h.x3) (by have := h.l1; omega) (by have := h.l2; omega) (by have := h.l3; omega) u0 u1
theorem PtB.fs {w w' U : World} {b1 b2 b3 D : Nat} {c : UInt8} {unit : Int} (h : PtB w w' b1 b2 b3 ⟨#[c]⟩ (some ⟨D, 1, none⟩) unit) (hU : Below w'.heap.size w' U) (hD : D < w.heap.size) (u0 : 0 ≤ unit) (u1 : unit ≤ 86400) : FC U (fun k => k = D) (StS D) (184, #[pt b1, pt b2, pt b3]) (gPs (c.toNat : Int) unit) :=
  fc_ps ((hU.block _ (lt_of h.x1)).trans h.x1) ((hU.block _ (lt_of h.x2)).trans h.x2) ((hU.block _ (lt_of h.x3)).trans h.x3) (by have := h.l1; omega) (by have := h.l2; omega) (by have := h.l3; omega) u0 u1
/-! lastPart. -/
structure StL (H D : Nat) (x : Int × Sp) (W : World) : Prop where
  a : W.heap[H]? = some (.cells #[.int .i64 x.1] 3 (0, 0))
  d : W.heap[D]? = some (.cells (spC x.2) 38 (0, 0))
  ne : H ≠ D
  a0 : -1000000000 < x.1 ∧ x.1 < 1000000000
theorem StL.s1 (H D : Nat) : CellSt (StL H D) H 0 (fun x n => (n, x.2)) := by
  intro x W h
  refine ⟨_, _, _, h.a, rfl, fun n W' n0 n1 hx hf => ⟨hx, hf.at h.d (fun q => h.ne q.symm), h.ne, ⟨n0, n1⟩⟩⟩
theorem StL.s2 (H D : Nat) : CellSt (StL H D) D 2 (fun x n => (x.1, { x.2 with n := n })) := by
  intro x W h
  refine ⟨_, _, _, h.d, rfl, fun n W' n0 n1 hx hf => ⟨hf.at h.a (fun q => h.ne q), hx, h.ne, h.a0⟩⟩
def gL3 : List (Gd (Int × Sp)) := [fun a l => if 0 < dk 9 l then some ((dvl (l.take (dk 9 l)), a.2), l.drop (dk 9 l)) else none, fun a l => (frG l).map fun x => (match x.1 with | some n => (a.1, { a.2 with n := n }) | none => a, x.2), gMk 83]
theorem last_w {V0 w1 w2 w3 : World} {p1 p2 p3 H D : Nat} {p : Sp} (h1 : MkB V0 w1 p1 (.pointer (some ⟨H, 0, none⟩)) 167) (h2 : MkB w1 w2 p2 (.pointer (some ⟨D, 2, none⟩)) 167) (h3 : MkB w2 w3 p3 (.string ⟨#[83]⟩) 9) (hst : StL H D (0, p) V0) (r : ByteArray) (hr : r.size ≤ maxLen) :
    Calls Tryz.prog 154 #[.string r, .slice (some ⟨w3.heap.size, 0, none⟩) 3 3] (w3.alloc (.cells #[fnV (209, #[pt p1]), fnV (193, #[pt p2]), fnV (187, #[pt p3])] 138)) fun e w6 => ∃ (t' : ByteArray) (b : Bool) (n : Int) (p' : Sp), e = .returned (.tuple #[.string t', .bool b]) ∧ (Fro (fun k => k = H ∨ k = D) V0 w6 ∧ StL H D (n, p') w6 ∧ t'.size ≤ r.size ∧ (b = true → runG gL3 (0, p) (bl r) = some ((n, p'), bl t')) ∧ (b = false → runG gL3 (0, p) (bl r) = none)) := by
  obtain ⟨U, hU⟩ : ∃ U, (w3.alloc (.cells #[fnV (209, #[pt p1]), fnV (193, #[pt p2]), fnV (187, #[pt p3])] 138)) = U := ⟨_, rfl⟩
  rw [hU]
  have u3 : Below w3.heap.size w3 U := by rw [← hU]; exact (Below.refl _ _).alloc (Nat.le_refl _) _
  have hUx : U.heap[w3.heap.size]? = some (.cells #[fnV (209, #[pt p1]), fnV (193, #[pt p2]), fnV (187, #[pt p3])] 138 (0, 0)) := by rw [← hU]; exact nw_heap _ _
  clear hU
  have u2 := bl_step h3.bl u3
  have u1 := bl_step h2.bl u2
  have u0 := bl_step h1.bl u1
  have s1 := h1.bl.size
  have s2 := h2.bl.size
  have s3 := h3.bl.size
  have hl1 := h1.l
  have hl2 := h2.l
  have hHl := lt_of hst.a
  have hDl := lt_of hst.d
  have hfc : FCs U (fun k => k = H ∨ k = D) (StL H D) [(209, #[pt p1]), (193, #[pt p2]), (187, #[pt p3])] gL3 :=
    .cons (fc_num (O := fun k => k = H ∨ k = D) p1 H 0 _ (h1.at u1) (by omega) (.inl rfl) (StL.s1 H D)) (.cons (fc_frac (O := fun k => k = H ∨ k = D) p2 D 2 _ (h2.at u2) (by omega) (.inr rfl) (StL.s2 H D) (fun a W ha W' cs t v hc hv hx hf => by
      rw [set_same hv] at hx
      exact ⟨hf.at ha.a (fun q => ha.ne q), by rw [hx, ← hc]; exact ha.d, ha.ne, ha.a0⟩)) (.cons (h3.fc u3 (by omega)) .nil))
  have hst' : StL H D (0, p) U := ⟨(u0.block _ (lt_of hst.a)).trans hst.a, (u0.block _ (lt_of hst.d)).trans hst.d, hst.ne, hst.a0⟩
  refine Calls.mono (read_p hfc w3.heap.size hUx (by omega) (by simp) U (0, p) r (Fro.refl _ _) hst' hr) ?_
  rintro e w6 ⟨t', b, ⟨n, p'⟩, rfl, hfr, hst6, hts, hm⟩
  refine ⟨t', b, n, p', rfl, (Fro.below u0).trans' hfr (fun i hi q => q), hst6, hts, ?_, ?_⟩
  · intro hb
    cases hg : runG gL3 (0, p) (bl r) with
    | none => rw [hg] at hm; rw [hm.1] at hb; cases hb
    | some x => rw [hg] at hm; obtain ⟨_, hx, hy⟩ := hm; rw [hx, hy]
  · intro hb
    cases hg : runG gL3 (0, p) (bl r) with
    | none => rfl
    | some x => rw [hg] at hm; rw [hm.1] at hb; cases hb
/-- lastPart. -/
def lpG : Gd Sp := fun p l => if l = [] then some (p, []) else (runG gL3 (0, p) l).map fun x => ({ x.1.2 with s := wr (x.1.2.s + x.1.1) }, x.2)
def LpP (s : ByteArray) (D : Nat) (p : Sp) (W : World) (e : Ending) (W' : World) : Prop :=
  ∃ (t' : ByteArray) (b : Bool) (p' : Sp), e = .returned (.tuple #[.string t', .bool b]) ∧ t'.size ≤ s.size ∧ Fro (fun k => k = D) W W' ∧ W'.heap[D]? = some (.cells (spC p') 38 (0, 0)) ∧ (match lpG p (bl s) with | some x => b = true ∧ p' = x.1 ∧ bl t' = x.2 | none => b = false)
set_option maxHeartbeats 1000000 in
theorem last_c (s : ByteArray) (b1 D : Nat) (p : Sp) (W : World) (h1 : W.heap[b1]? = some (.cells #[.pointer (some ⟨D, 0, none⟩)] 140 (0, 0))) (hD : W.heap[D]? = some (.cells (spC p) 38 (0, 0))) (n1 : D ≠ b1) (hs : s.size ≤ maxLen) :
    Calls Tryz.prog 186 #[.string s, pt b1] W (LpP s D p W) := by
  by_cases hs0 : s.size = 0
  · have hq := tl_ee hs0
    have hg : lpG p (bl s) = some (p, []) := by unfold lpG; rw [if_pos (bl_nil hs0)]
    have HH : Hid _ := And.intro hD hg
    clear hD hg h1 hs0
    go_enter Tryz.func186, Tryz.ntmps186
    go_wp2_with fail
    go_ret2
    refine ⟨⟨#[]⟩, true, p, rfl, Nat.zero_le _, Fro.refl _ _, HH.out.1, ?_⟩
    rw [HH.out.2]
    exact ⟨rfl, rfl, rfl⟩
  have hsp : 0 < s.size := by omega
  have hq0 := tl_nn hsp
  have hne : ¬ bl s = [] := fun q => by have := bl_len s; rw [q] at this; simp at this; omega
  have hg : lpG p (bl s) = (runG gL3 (0, p) (bl s)).map fun x => ({ x.1.2 with s := wr (x.1.2.s + x.1.1) }, x.2) := by unfold lpG; rw [if_neg hne]
  have HH : Hid _ := And.intro h1 (And.intro hD hg)
  have hb1l := lt_of h1
  have hDl := lt_of hD
  clear h1 hD hg hne
  have hN := nw_heap W (.cells #[.int .i64 0] 3)
  have hB0 : Below W.heap.size W (W.alloc (.cells #[.int .i64 0] 3)) := (Below.refl _ _).alloc (Nat.le_refl _) _
  have hsU : (W.alloc (.cells #[.int .i64 0] 3)).heap.size = W.heap.size + 1 := by simp
  go_enter Tryz.func186, Tryz.ntmps186
  go_wp2_with fail
  generalize (W.alloc (.cells #[.int .i64 0] 3)) = U0 at *
  have hst0 : StL W.heap.size D (0, p) U0.drew := ⟨hN, (hB0.block _ hDl).trans HH.out.2.1, by omega, by simp⟩
  have HZ : Hid _ := And.intro hst0 (And.intro hB0 (And.intro hs trivial))
  have g1 : U0.drew.cell? ⟨b1, 0, none⟩ = some (.pointer (some ⟨D, 0, none⟩)) := cl1 ((hB0.block _ hb1l).trans HH.out.1)
  clear hst0 hB0 hN hsU
  go_region_held3 (fun X => X.cell? ⟨b1, 0, none⟩ = some (.pointer (some ⟨D, 0, none⟩))) (first | exact g1 | exact g1' | fail) (first
    | (go_at_call 185; (with_reducible refine Calls.mono (mk_num _ _) ?_); rintro e w1 ⟨p1, rfl, l2, x2, b2'⟩; have H1 : Hid _ := And.intro (MkB.mk l2 x2 b2') (HZ.out.2.1.trans ((below_drewN 1).trans b2' |>.mono HZ.out.2.1.size)); clear l2 x2 b2' g1; have g1 := cl1 ((H1.out.2.block _ hb1l).trans HH.out.1))
    | (go_at_call 164; (with_reducible refine Calls.mono (mk_frac _ _) ?_); rintro e w2 ⟨p2, rfl, l2, x2, b2'⟩; have H2 : Hid _ := And.intro (MkB.mk l2 x2 b2') (H1.out.2.trans (b2'.mono H1.out.2.size)); clear l2 x2 b2' g1; have g1 := cl1 ((H2.out.2.block _ hb1l).trans HH.out.1))
    | (go_at_call 159; (with_reducible refine Calls.mono (mark_m _ _) ?_); rintro e w3 ⟨p3, rfl, h2⟩; have H3 : Hid _ := And.intro h2 (H2.out.2.trans (h2.bl.mono H2.out.2.size)); clear h2 g1; have g1 := cl1 ((H3.out.2.block _ hb1l).trans HH.out.1); have g1' : (w3.alloc (.cells #[fnV (209, #[pt p1]), fnV (193, #[pt p2]), fnV (187, #[pt p3])] 138)).cell? ⟨b1, 0, none⟩ = some (.pointer (some ⟨D, 0, none⟩)) := (Below.cell (p := ⟨b1, 0, none⟩) ((Below.refl w3.heap.size w3).alloc (Nat.le_refl _) _) (Nat.lt_of_lt_of_le hb1l H3.out.2.size)).trans g1)
    | (go_at_call 154; (refine Calls.mono (last_w H1.out.1 H2.out.1 H3.out.1 HZ.out.1 _ HZ.out.2.2.1) ?_); rintro e w6 ⟨t', b, n, p', rfl, h8⟩; have H8 : Hid _ := And.intro h8 trivial; clear g1; have g1 : w6.cell? ⟨b1, 0, none⟩ = some (.pointer (some ⟨D, 0, none⟩)) := cl1 (h8.1.at (show U0.drew.heap[b1]? = _ from (HZ.out.2.1.block _ hb1l).trans HH.out.1) (by omega)); clear h8)
    | fail)
  obtain ⟨hfr, hst, hts, hT, hF⟩ := H8.out.1
  have frW : Fro (fun k => k = W.heap.size ∨ k = D) W w6 := (Fro.below (O := fun k => k = W.heap.size ∨ k = D) HZ.out.2.1).trans (show Fro (fun k => k = W.heap.size ∨ k = D) U0 w6 from ⟨hfr.os, hfr.tape, hfr.output, hfr.size, hfr.block⟩)
  have fr6 : Fro (fun k => k = D) W w6 := ⟨frW.os, frW.tape, frW.output, frW.size, fun k hk hn => frW.block k hk (by omega)⟩
  have x6 := hst.d
  dsimp only at x6
  have y2 := cl1 (frW.at HH.out.1 (by omega))
  have y1 := cl1 hst.a
  obtain ⟨a1, a2⟩ := hst.a0
  dsimp only at a1 a2 y1
  obtain ⟨po, ps, pn⟩ := p'
  obtain ⟨d0, d1, d2⟩ := blk3 x6
  have cD := (cl_at (i := 1) x6 rfl).2
  dsimp only at *
  have x7 : (w6.setCell ⟨D, 1, none⟩ (.int .i64 (wr (ps + n)))).heap[D]? = some (.cells (spC ⟨po, wr (ps + n), pn⟩) 38 (0, 0)) := bset (i := 1) x6 (.int .i64 (wr (ps + n)))
  have f7 := fr6.set (X := D) (i := 1) (.inl rfl) (.int .i64 (wr (ps + n)))
  have hmm : ∀ B, b = B → (match lpG p (bl s) with | some x => B = true ∧ (⟨po, wr (ps + n), pn⟩ : Sp) = x.1 ∧ bl t' = x.2 | none => B = false) := by
    intro B hB
    rw [HH.out.2.2]
    cases B with
    | true => rw [hT hB]; exact ⟨rfl, rfl, rfl⟩
    | false => rw [hF hB]; rfl
  have HX : Hid _ := And.intro x7 (And.intro f7 (And.intro hts hmm))
  clear x7 f7 hmm hfr frW fr6 x6 hst hts hT hF H1 H2 H3 H8 HZ g1 g1' d0 d2
  go_wp2_with fail
  go_region
  all_goals
    go_wp2_with fail
    go_ret2
    exact ⟨t', b, ⟨po, wr (ps + n), pn⟩, rfl, HX.out.2.2.1, HX.out.2.1.drewN 1, HX.out.1, HX.out.2.2.2 b rfl⟩
theorem fc_last {U : World} {D b1 : Nat} (h1 : U.heap[b1]? = some (.cells #[.pointer (some ⟨D, 0, none⟩)] 140 (0, 0))) (n1 : D ≠ b1) : FC U (fun k => k = D) (StS D) (186, #[pt b1]) lpG := by
  refine ⟨en_last, fun W p s hW hp hs => ?_⟩
  refine Calls.mono (last_c s b1 D p W (hW.at h1 (fun q => n1 q.symm)) hp.x n1 hs) ?_
  rintro e w' ⟨t', b, p', rfl, hts, hf, hx, hm⟩
  refine ⟨t', b, p', rfl, fro_in hW hf rfl, ⟨hx⟩, hts, ?_⟩
  cases hg : lpG p (bl s) with
  | none => rw [hg] at hm; exact hm
  | some x => rw [hg] at hm; exact hm
end Go.Proofs.YtgaegajcejpmdaaGreatDoor.Dt
namespace Go.Proofs.YtgaegajcejpmdaaGreatDoor.Dt
open Go.RowKit
set_option linter.unusedVariables false

/-- Cut at the first T. -/
def ctB (l : List Int) : List Int × List Int × Bool := if ix l = -1 then (l, [], false) else (l.take (ix l).toNat, l.drop ((ix l).toNat + 1), true)
theorem cut_t (s : ByteArray) (w : World) (hs : s.size ≤ maxLen) :
    Calls Tryz.prog 105 #[.string s, .string ⟨#[84]⟩] w fun e w' => ∃ (x y : ByteArray) (b : Bool), e = .returned (.tuple #[.string x, .string y, .bool b]) ∧ (bl x = (ctB (bl s)).1 ∧ bl y = (ctB (bl s)).2.1 ∧ b = (ctB (bl s)).2.2 ∧ x.size ≤ s.size ∧ y.size ≤ s.size ∧ Below w.heap.size w w') := by
  unfold ctB
  rcases ix_bd (bl s) with h | ⟨h0, h1⟩
  · refine Calls.mono (cut_no s w h) ?_
    rintro e w' ⟨rfl, rfl⟩
    refine ⟨_, _, _, rfl, ?_⟩
    rw [if_pos h]
    exact ⟨rfl, rfl, rfl, Nat.le_refl _, Nat.zero_le _, Below.refl _ _⟩
  · obtain ⟨k, hk⟩ := Int.eq_ofNat_of_zero_le h0
    rw [bl_len] at h1
    refine Calls.mono (cut_yes s k w hs hk) ?_
    rintro e w' ⟨rfl, hb⟩
    refine ⟨_, _, _, rfl, ?_⟩
    rw [if_neg (by omega), hk]
    refine ⟨?_, ?_, rfl, ?_, ?_, hb⟩
    · rw [bl_pre s k (by omega)]; rfl
    · rw [bl_suf]; rfl
    · rw [ByteArray.size_extract]; omega
    · rw [ByteArray.size_extract]; omega
def gsD : List (Gd Sp) := [gPo 89 12, gPo 77 1, gPs 68 86400]
def gsT : List (Gd Sp) := [gPs 72 3600, gPs 77 60, lpG]
theorem days_w {V0 w1 w2 w3 : World} {p1 p2 p3 p4 p5 p6 p7 p8 p9 D : Nat} {p : Sp} (h1 : PtB V0 w1 p1 p2 p3 ⟨#[89]⟩ (some ⟨D, 0, none⟩) 12) (h2 : PtB w1 w2 p4 p5 p6 ⟨#[77]⟩ (some ⟨D, 0, none⟩) 1) (h3 : PtB w2 w3 p7 p8 p9 ⟨#[68]⟩ (some ⟨D, 1, none⟩) 86400) (hst : StS D p V0) (r : ByteArray) (hr : r.size ≤ maxLen) :
    Calls Tryz.prog 113 #[.string r, .slice (some ⟨w3.heap.size, 0, none⟩) 3 3] (w3.alloc (.cells #[fnV (184, #[pt p1, pt p2, pt p3]), fnV (184, #[pt p4, pt p5, pt p6]), fnV (184, #[pt p7, pt p8, pt p9])] 138)) fun e w6 => ∃ (b : Bool) (p' : Sp), e = .returned (.bool b) ∧ (Fro (fun k => k = D) V0 w6 ∧ StS D p' w6 ∧ (b = true → runG gsD p (bl r) = some (p', [])) ∧ (b = false → ∀ x, runG gsD p (bl r) = some x → x.2 ≠ [])) := by
  obtain ⟨U, hU⟩ : ∃ U, (w3.alloc (.cells #[fnV (184, #[pt p1, pt p2, pt p3]), fnV (184, #[pt p4, pt p5, pt p6]), fnV (184, #[pt p7, pt p8, pt p9])] 138)) = U := ⟨_, rfl⟩
  rw [hU]
  have u3 : Below w3.heap.size w3 U := by rw [← hU]; exact (Below.refl _ _).alloc (Nat.le_refl _) _
  have hUx : U.heap[w3.heap.size]? = some (.cells #[fnV (184, #[pt p1, pt p2, pt p3]), fnV (184, #[pt p4, pt p5, pt p6]), fnV (184, #[pt p7, pt p8, pt p9])] 138 (0, 0)) := by rw [← hU]; exact nw_heap _ _
  clear hU
  have u2 := bl_step h3.bl u3
  have u1 := bl_step h2.bl u2
  have u0 := bl_step h1.bl u1
  have s1 := h1.bl.size
  have s2 := h2.bl.size
  have s3 := h3.bl.size
  have hDl := lt_of hst.x
  have hfc : FCs U (fun k => k = D) (StS D) [(184, #[pt p1, pt p2, pt p3]), (184, #[pt p4, pt p5, pt p6]), (184, #[pt p7, pt p8, pt p9])] gsD :=
    .cons (h1.fo u1 (by omega) (by omega) (by omega)) (.cons (h2.fo u2 (by omega) (by omega) (by omega)) (.cons (h3.fs u3 (by omega) (by omega) (by omega)) .nil))
  refine Calls.mono (whole_p hfc w3.heap.size hUx (by omega) (by simp) U p r (Fro.refl _ _) ⟨(u0.block _ hDl).trans hst.x⟩ hr) ?_
  rintro e w6 ⟨b, p', rfl, hfr, hst6, hT, hF⟩
  exact ⟨b, p', rfl, (Fro.below u0).trans' hfr (fun i hi q => q), hst6, hT, hF⟩
theorem times_w {V0 w1 w2 w3 : World} {p1 p2 p3 p4 p5 p6 p7 D : Nat} {p : Sp} (h1 : PtB V0 w1 p1 p2 p3 ⟨#[72]⟩ (some ⟨D, 1, none⟩) 3600) (h2 : PtB w1 w2 p4 p5 p6 ⟨#[77]⟩ (some ⟨D, 1, none⟩) 60) (h3 : MkB w2 w3 p7 (.pointer (some ⟨D, 0, none⟩)) 140) (hst : StS D p V0) (r : ByteArray) (hr : r.size ≤ maxLen) :
    Calls Tryz.prog 113 #[.string r, .slice (some ⟨w3.heap.size, 0, none⟩) 3 3] (w3.alloc (.cells #[fnV (184, #[pt p1, pt p2, pt p3]), fnV (184, #[pt p4, pt p5, pt p6]), fnV (186, #[pt p7])] 138)) fun e w6 => ∃ (b : Bool) (p' : Sp), e = .returned (.bool b) ∧ (Fro (fun k => k = D) V0 w6 ∧ StS D p' w6 ∧ (b = true → runG gsT p (bl r) = some (p', [])) ∧ (b = false → ∀ x, runG gsT p (bl r) = some x → x.2 ≠ [])) := by
  obtain ⟨U, hU⟩ : ∃ U, (w3.alloc (.cells #[fnV (184, #[pt p1, pt p2, pt p3]), fnV (184, #[pt p4, pt p5, pt p6]), fnV (186, #[pt p7])] 138)) = U := ⟨_, rfl⟩
  rw [hU]
  have u3 : Below w3.heap.size w3 U := by rw [← hU]; exact (Below.refl _ _).alloc (Nat.le_refl _) _
  have hUx : U.heap[w3.heap.size]? = some (.cells #[fnV (184, #[pt p1, pt p2, pt p3]), fnV (184, #[pt p4, pt p5, pt p6]), fnV (186, #[pt p7])] 138 (0, 0)) := by rw [← hU]; exact nw_heap _ _
  clear hU
  have u2 := bl_step h3.bl u3
  have u1 := bl_step h2.bl u2
  have u0 := bl_step h1.bl u1
  have s1 := h1.bl.size
  have s2 := h2.bl.size
  have s3 := h3.bl.size
  have hDl := lt_of hst.x
  have hl3 := h3.l
  have hfc : FCs U (fun k => k = D) (StS D) [(184, #[pt p1, pt p2, pt p3]), (184, #[pt p4, pt p5, pt p6]), (186, #[pt p7])] gsT :=
    .cons (h1.fs u1 (by omega) (by omega) (by omega)) (.cons (h2.fs u2 (by omega) (by omega) (by omega)) (.cons (fc_last (h3.at u3) (by omega)) .nil))
  refine Calls.mono (whole_p hfc w3.heap.size hUx (by omega) (by simp) U p r (Fro.refl _ _) ⟨(u0.block _ hDl).trans hst.x⟩ hr) ?_
  rintro e w6 ⟨b, p', rfl, hfr, hst6, hT, hF⟩
  exact ⟨b, p', rfl, (Fro.below u0).trans' hfr (fun i hi q => q), hst6, hT, hF⟩
/-- What is left behind the sign; behind the P. -/
def sgB (l : List Int) : List Int := if l.head? = some 45 then l.tail else l
def spP (l : List Int) : List Int := if l.head? = some 80 then l.tail else l
def ngP (neg : Bool) (p : Sp) : Sp := if neg then ⟨wr (-p.o), wr (-p.s), wr (-p.n)⟩ else p
def spG (p : Sp) (l : List Int) : Option Sp :=
  if ¬ (sgB l).head? = some 80 ∨ spP (sgB l) = [] ∨ ((ctB (spP (sgB l))).2.2 = true ∧ (ctB (spP (sgB l))).2.1 = []) then none
  else (runG gsD p (ctB (spP (sgB l))).1).bind fun x => if x.2 ≠ [] then none else (runG gsT x.1 (ctB (spP (sgB l))).2.1).bind fun y => if y.2 ≠ [] then none else some (ngP (decide (l.head? = some 45)) y.1)
def SnP (s : ByteArray) (D : Nat) (p : Sp) (W : World) (e : Ending) (W' : World) : Prop :=
  ∃ (b : Bool) (p' : Sp), e = .returned (.tuple #[.string ⟨#[]⟩, .bool b]) ∧ Fro (fun k => k = D) W W' ∧ W'.heap[D]? = some (.cells (spC p') 38 (0, 0)) ∧ (match spG p (bl s) with | some x => b = true ∧ p' = x | none => b = false)
set_option maxHeartbeats 1000000 in
theorem span_c (s : ByteArray) (b1 D : Nat) (p : Sp) (W : World) (h1 : W.heap[b1]? = some (.cells #[.pointer (some ⟨D, 0, none⟩)] 140 (0, 0))) (hD : W.heap[D]? = some (.cells (spC p) 38 (0, 0))) (n1 : D ≠ b1) (hs : s.size ≤ maxLen) :
    Calls Tryz.prog 155 #[.string s, pt b1] W (SnP s D p W) := by
  have m1 := cp_p s 45 W hs
  have e45 : ((45 : UInt8).toNat : Int) = 45 := rfl
  rw [e45] at m1
  obtain ⟨r1, hr1⟩ : ∃ r, (if (bl s).head? = some 45 then s.extract 1 s.size else s) = r := ⟨_, rfl⟩
  have hb1 : bl r1 = sgB (bl s) := by
    rw [← hr1]; unfold sgB
    split
    · rw [bl_ext, List.drop_one]
    · rfl
  have hz1 : r1.size ≤ s.size := by
    rw [← hr1]
    split
    · rw [ByteArray.size_extract]; omega
    · omega
  rw [hr1] at m1
  clear hr1 e45
  have m2 := cp_p r1 80 W (by omega)
  have e80 : ((80 : UInt8).toNat : Int) = 80 := rfl
  rw [e80] at m2
  obtain ⟨r2, hr2⟩ : ∃ r, (if (bl r1).head? = some 80 then r1.extract 1 r1.size else r1) = r := ⟨_, rfl⟩
  have hb2 : bl r2 = spP (bl r1) := by
    rw [← hr2]; unfold spP
    split
    · rw [bl_ext, List.drop_one]
    · rfl
  have hz2 : r2.size ≤ s.size := by
    rw [← hr2]
    split
    · rw [ByteArray.size_extract]; omega
    · omega
  rw [hr2] at m2
  clear hr2 e80
  have m3 := cut_t r2 W (by omega)
  have hG : spG p (bl s) = if ¬ (bl r1).head? = some 80 ∨ bl r2 = [] ∨ ((ctB (bl r2)).2.2 = true ∧ (ctB (bl r2)).2.1 = []) then none
      else (runG gsD p (ctB (bl r2)).1).bind fun x => if x.2 ≠ [] then none else (runG gsT x.1 (ctB (bl r2)).2.1).bind fun y => if y.2 ≠ [] then none else some (ngP (decide ((bl s).head? = some 45)) y.1) := by
    unfold spG; rw [hb2, hb1]
  obtain ⟨neg, hneg⟩ : ∃ neg, decide ((bl s).head? = some 45) = neg := ⟨_, rfl⟩
  rw [hneg] at m1 hG
  obtain ⟨ok, hok⟩ : ∃ ok, decide ((bl r1).head? = some 80) = ok := ⟨_, rfl⟩
  have hok2 : (bl r1).head? = some 80 ↔ ok = true := by rw [← hok]; simp
  rw [hok] at m2
  have hG0 : ok = false ∨ bl r2 = [] ∨ ((ctB (bl r2)).2.2 = true ∧ (ctB (bl r2)).2.1 = []) → spG p (bl s) = none := fun q => by
    rw [hG, if_pos (q.elim (fun q => .inl (fun e => by rw [hok2] at e; rw [e] at q; cases q)) .inr)]
  have hG1 : ok = true → bl r2 ≠ [] → ¬ ((ctB (bl r2)).2.2 = true ∧ (ctB (bl r2)).2.1 = []) → spG p (bl s) = (runG gsD p (ctB (bl r2)).1).bind fun x => if x.2 ≠ [] then none else (runG gsT x.1 (ctB (bl r2)).2.1).bind fun y => if y.2 ≠ [] then none else some (ngP neg y.1) := fun q1 q2 q3 => by
    rw [hG, if_neg (fun q => q.elim (fun q => q (hok2.2 q1)) (fun q => q.elim q2 q3))]
  have hG := And.intro hG0 hG1
  clear hneg hok hok2 hb1 hb2 hG0 hG1
  have HM : Hid _ := And.intro m1 (And.intro m2 m3)
  have HH : Hid _ := And.intro h1 (And.intro hD (And.intro hs (And.intro hz2 hG)))
  have hb1l := lt_of h1
  have hDl := lt_of hD
  clear m1 m2 m3 h1 hD hG
  go_enter Tryz.func155, Tryz.ntmps155
  go_wp2_with (first | (go_at_call 156; with_reducible refine Calls.mono HM.out.1 ?_; rintro e w' ⟨rfl, hw⟩; have hw2 := hw.symm; clear hw; subst hw2) | (go_at_call 156; with_reducible refine Calls.mono HM.out.2.1 ?_; rintro e w' ⟨rfl, hw⟩; have hw2 := hw.symm; clear hw; subst hw2))
  refine Calls.mono HM.out.2.2 ?_
  rintro e w1 ⟨dy, tm, b3, rfl, hdy, htm, hb3, hzd, hzt, hbw⟩
  have hG := HH.out.2.2.2.2
  rw [← hdy, ← htm, ← hb3] at hG
  have x1 : w1.heap[b1]? = some (.cells #[.pointer (some ⟨D, 0, none⟩)] 140 (0, 0)) := (hbw.block _ hb1l).trans HH.out.1
  have xD : w1.heap[D]? = some (.cells (spC p) 38 (0, 0)) := (hbw.block _ hDl).trans HH.out.2.1
  have hmd : dy.size ≤ maxLen := by have := HH.out.2.2.1; have := HH.out.2.2.2.1; omega
  have hmt : tm.size ≤ maxLen := by have := HH.out.2.2.1; have := HH.out.2.2.2.1; omega
  have H1 : Hid _ := And.intro x1 (And.intro xD (And.intro hbw (And.intro hG (And.intro hmd hmt))))
  clear x1 xD hbw hG hmd hmt hdy htm hb3 hzd hzt HM HH hz2 hz1
  obtain ⟨hG0, hG1⟩ := H1.out.2.2.2.1
  have HG0 : Hid _ := hG0
  have HG1 : Hid _ := hG1
  clear hG0 hG1
  cases ok
  · go_wp2_with fail
    go_ret2
    refine ⟨false, p, rfl, Fro.below H1.out.2.2.1, H1.out.2.1, ?_⟩
    rw [HG0.out (by simp)]
  by_cases h20 : r2.size = 0
  · have hq := tl_ee h20
    go_wp2_with fail
    go_ret2
    refine ⟨false, p, rfl, Fro.below H1.out.2.2.1, H1.out.2.1, ?_⟩
    rw [HG0.out (.inr (.inl (bl_nil h20)))]
  have hq2 := tl_nn (show 0 < r2.size by omega)
  have hne2 : bl r2 ≠ [] := fun q => by have := bl_len r2; rw [q] at this; simp at this; omega
  by_cases h3 : b3 = true ∧ tm.size = 0
  · obtain ⟨rfl, h30⟩ := h3
    have hq3 := tl_ee h30
    have HX : Hid _ := HG0.out (.inr (.inr ⟨rfl, bl_nil h30⟩))
    clear HG0 HG1 hne2
    go_wp2_with fail
    go_ret2
    refine ⟨false, p, rfl, Fro.below H1.out.2.2.1, H1.out.2.1, ?_⟩
    rw [HX.out]
  have HE : Hid _ := HG1.out rfl hne2 (fun q => h3 ⟨q.1, by have := bl_len tm; rw [q.2] at this; simpa using this.symm⟩)
  clear HG0 HG1 hne2
  have hcase : b3 = false ∨ (b3 = true ∧ (tm.toList == []) = false) := by
    cases b3
    · exact .inl rfl
    · exact .inr ⟨rfl, tl_nn (by have : ¬ tm.size = 0 := fun q => h3 ⟨rfl, q⟩; omega)⟩
  clear h3
  have g1 := cl1 H1.out.1
  rcases hcase with rfl | ⟨rfl, hq3⟩
  · go_wp2_with fail
    have HB0 : Hid (Below w1.heap.size w1 w1.drew) := below_drewN 1
    have hst0 : StS D p w1.drew := ⟨H1.out.2.1⟩
    have HZ : Hid _ := And.intro hst0 trivial
    clear hst0
    have hb1w : b1 < w1.heap.size := lt_of H1.out.1
    have hDw : D < w1.heap.size := lt_of H1.out.2.1
    have g1d : w1.drew.cell? ⟨b1, 0, none⟩ = some (.pointer (some ⟨D, 0, none⟩)) := g1
    clear g1
    go_region_held3 (fun X => X.cell? ⟨b1, 0, none⟩ = some (.pointer (some ⟨D, 0, none⟩))) (first | exact g1d | exact g1 | exact g1' | fail) (first
      | (go_at_call 157; (with_reducible refine Calls.mono (part_m ⟨#[89]⟩ 12 _ _) ?_); rintro e w2 ⟨p1, p2, p3, rfl, h2⟩; have H2 : Hid _ := And.intro h2 (HB0.out.trans (h2.bl.mono HB0.out.size)); clear h2 g1d; have g1 := cl1 ((H2.out.2.block _ hb1w).trans H1.out.1))
      | (go_at_call 157; (with_reducible refine Calls.mono (part_m ⟨#[77]⟩ 1 _ _) ?_); rintro e w3 ⟨p4, p5, p6, rfl, h2⟩; have H3 : Hid _ := And.intro h2 (H2.out.2.trans (h2.bl.mono H2.out.2.size)); clear h2 g1; have g1 := cl1 ((H3.out.2.block _ hb1w).trans H1.out.1))
      | (go_at_call 157; (with_reducible refine Calls.mono (part_m ⟨#[68]⟩ 86400 _ _) ?_); rintro e w4 ⟨p7, p8, p9, rfl, h2⟩; have H4 : Hid _ := And.intro h2 (H3.out.2.trans (h2.bl.mono H3.out.2.size)); clear h2 g1; have g1 := cl1 ((H4.out.2.block _ hb1w).trans H1.out.1); have g1' : (w4.alloc (.cells #[fnV (184, #[pt p1, pt p2, pt p3]), fnV (184, #[pt p4, pt p5, pt p6]), fnV (184, #[pt p7, pt p8, pt p9])] 138)).cell? ⟨b1, 0, none⟩ = some (.pointer (some ⟨D, 0, none⟩)) := (Below.cell (p := ⟨b1, 0, none⟩) ((Below.refl w4.heap.size w4).alloc (Nat.le_refl _) _) (Nat.lt_of_lt_of_le hb1w H4.out.2.size)).trans g1)
      | (go_at_call 113; (refine Calls.mono (days_w H2.out.1 H3.out.1 H4.out.1 HZ.out.1 _ H1.out.2.2.2.2.1) ?_); rintro e w5 ⟨b, p', rfl, h8⟩; have H5 : Hid _ := And.intro h8 trivial; clear g1; have g1 : w5.cell? ⟨b1, 0, none⟩ = some (.pointer (some ⟨D, 0, none⟩)) := cl1 (h8.1.at (show w1.drew.heap[b1]? = _ from H1.out.1) (fun q => n1 q.symm)); clear h8)
      | fail)
    have fr5 : Fro (fun k => k = D) W w5 := (Fro.below H1.out.2.2.1).trans (show Fro (fun k => k = D) w1 w5 from ⟨H5.out.1.1.os, H5.out.1.1.tape, H5.out.1.1.output, H5.out.1.1.size, H5.out.1.1.block⟩)
    have x5 : w5.heap[b1]? = some (.cells #[.pointer (some ⟨D, 0, none⟩)] 140 (0, 0)) := H5.out.1.1.at (show w1.drew.heap[b1]? = _ from H1.out.1) (fun q => n1 q.symm)
    have H6 : Hid _ := And.intro fr5 (And.intro x5 H5.out.1.2)
    clear fr5 x5 g1' H2 H3 H4 H5 HZ HB0
    cases b
    · go_wp2_with fail
      go_ret2
      refine ⟨false, p', rfl, H6.out.1, H6.out.2.2.1.x, ?_⟩
      have hF := H6.out.2.2.2.2 (by first | rfl | trivial)
      rw [HE.out]
      cases hr : runG gsD p (bl dy) with
      | none => rfl
      | some x => rw [Option.bind_some, if_pos (hF x hr)]
    go_wp2_with fail
    have hrun := H6.out.2.2.2.1 (by first | rfl | trivial)
    have hE2 := HE.out
    rw [hrun, Option.bind_some, if_neg (by simp)] at hE2
    have HE2 : Hid _ := hE2
    clear hE2 hrun HE
    have HB0 : Hid (Below w5.heap.size w5 w5.drew) := below_drewN 1
    have hst0 : StS D p' w5.drew := ⟨H6.out.2.2.1.x⟩
    have HZ : Hid _ := And.intro hst0 trivial
    have hb1w5 : b1 < w5.heap.size := lt_of H6.out.2.1
    have g1d : w5.drew.cell? ⟨b1, 0, none⟩ = some (.pointer (some ⟨D, 0, none⟩)) := g1
    clear hst0 g1
    go_region_held3 (fun X => X.cell? ⟨b1, 0, none⟩ = some (.pointer (some ⟨D, 0, none⟩))) (first | exact g1d | exact g1 | exact g1' | fail) (first
      | (go_at_call 157; (with_reducible refine Calls.mono (part_m ⟨#[72]⟩ 3600 _ _) ?_); rintro e w6 ⟨p1, p2, p3, rfl, h2⟩; have H2 : Hid _ := And.intro h2 (HB0.out.trans (h2.bl.mono HB0.out.size)); clear h2 g1d; have g1 := cl1 ((H2.out.2.block _ hb1w5).trans H6.out.2.1))
      | (go_at_call 157; (with_reducible refine Calls.mono (part_m ⟨#[77]⟩ 60 _ _) ?_); rintro e w7 ⟨p4, p5, p6, rfl, h2⟩; have H3 : Hid _ := And.intro h2 (H2.out.2.trans (h2.bl.mono H2.out.2.size)); clear h2 g1; have g1 := cl1 ((H3.out.2.block _ hb1w5).trans H6.out.2.1))
      | (go_at_call 158; (with_reducible refine Calls.mono (last_m _ _) ?_); rintro e w8 ⟨p7, rfl, h2⟩; have H4 : Hid _ := And.intro h2 (H3.out.2.trans (h2.bl.mono H3.out.2.size)); clear h2 g1; have g1 := cl1 ((H4.out.2.block _ hb1w5).trans H6.out.2.1); have g1' : (w8.alloc (.cells #[fnV (184, #[pt p1, pt p2, pt p3]), fnV (184, #[pt p4, pt p5, pt p6]), fnV (186, #[pt p7])] 138)).cell? ⟨b1, 0, none⟩ = some (.pointer (some ⟨D, 0, none⟩)) := (Below.cell (p := ⟨b1, 0, none⟩) ((Below.refl w8.heap.size w8).alloc (Nat.le_refl _) _) (Nat.lt_of_lt_of_le hb1w5 H4.out.2.size)).trans g1)
      | (go_at_call 113; (refine Calls.mono (times_w H2.out.1 H3.out.1 H4.out.1 HZ.out.1 _ H1.out.2.2.2.2.2) ?_); rintro e w9 ⟨b', p'', rfl, h8⟩; have H5 : Hid _ := And.intro h8 trivial; clear g1; have g1 : w9.cell? ⟨b1, 0, none⟩ = some (.pointer (some ⟨D, 0, none⟩)) := cl1 (h8.1.at (show w5.drew.heap[b1]? = _ from H6.out.2.1) (fun q => n1 q.symm)); clear h8)
      | fail)
    have fr9 : Fro (fun k => k = D) W w9 := H6.out.1.trans (show Fro (fun k => k = D) w5 w9 from ⟨H5.out.1.1.os, H5.out.1.1.tape, H5.out.1.1.output, H5.out.1.1.size, H5.out.1.1.block⟩)
    have H7 : Hid _ := And.intro fr9 H5.out.1.2
    clear fr9 g1' H2 H3 H4 H5 HZ HB0
    cases b'
    · go_wp2_with fail
      go_ret2
      refine ⟨false, p'', rfl, H7.out.1, H7.out.2.1.x, ?_⟩
      have hF := H7.out.2.2.2 (by first | rfl | trivial)
      rw [HE2.out]
      cases hr : runG gsT p' (bl tm) with
      | none => rfl
      | some x => rw [Option.bind_some, if_pos (hF x hr)]
    have hrun2 := H7.out.2.2.1 (by first | rfl | trivial)
    have hE3 := HE2.out
    rw [hrun2, Option.bind_some, if_neg (by simp)] at hE3
    have HE3 : Hid _ := hE3
    clear hE3 hrun2 HE2
    cases neg
    · go_wp2_with fail
      go_ret2
      refine ⟨true, p'', rfl, H7.out.1, H7.out.2.1.x, ?_⟩
      rw [HE3.out]
      exact ⟨rfl, rfl⟩
    obtain ⟨po, ps, pn⟩ := p''
    have x9 := H7.out.2.1.x
    obtain ⟨d0, d1, d2⟩ := blk3 x9
    have t0 := (cl_at (i := 0) x9 rfl).2
    have t1 := (cl_at (i := 1) x9 rfl).2
    have t2 := (cl_at (i := 2) x9 rfl).2
    dsimp only at d0 d1 d2
    have xA : (((w9.setCell ⟨D, 0, none⟩ (.int .i64 (wr (-po)))).setCell ⟨D, 1, none⟩ (.int .i64 (wr (-ps)))).setCell ⟨D, 2, none⟩ (.int .i64 (wr (-pn)))).heap[D]? = some (.cells (spC ⟨wr (-po), wr (-ps), wr (-pn)⟩) 38 (0, 0)) := bset (i := 2) (bset (i := 1) (bset (i := 0) x9 (.int .i64 (wr (-po)))) (.int .i64 (wr (-ps)))) (.int .i64 (wr (-pn)))
    have fA := ((H7.out.1.set (X := D) (i := 0) (.inl rfl) (.int .i64 (wr (-po)))).set (X := D) (i := 1) (.inl rfl) (.int .i64 (wr (-ps)))).set (X := D) (i := 2) (.inl rfl) (.int .i64 (wr (-pn)))
    have HA : Hid _ := And.intro xA fA
    clear xA fA x9 H1 H6 H7 hG
    go_wp2_with fail
    go_region
    all_goals
      go_wp2_with fail
      go_ret2
      refine ⟨true, ⟨wr (-po), wr (-ps), wr (-pn)⟩, rfl, HA.out.2.drewN 1, HA.out.1, ?_⟩
      rw [HE3.out]
      exact ⟨rfl, rfl⟩
  · go_wp2_with fail
    have HB0 : Hid (Below w1.heap.size w1 w1.drew) := below_drewN 1
    have hst0 : StS D p w1.drew := ⟨H1.out.2.1⟩
    have HZ : Hid _ := And.intro hst0 trivial
    clear hst0
    have hb1w : b1 < w1.heap.size := lt_of H1.out.1
    have hDw : D < w1.heap.size := lt_of H1.out.2.1
    have g1d : w1.drew.cell? ⟨b1, 0, none⟩ = some (.pointer (some ⟨D, 0, none⟩)) := g1
    clear g1
    go_region_held3 (fun X => X.cell? ⟨b1, 0, none⟩ = some (.pointer (some ⟨D, 0, none⟩))) (first | exact g1d | exact g1 | exact g1' | fail) (first
      | (go_at_call 157; (with_reducible refine Calls.mono (part_m ⟨#[89]⟩ 12 _ _) ?_); rintro e w2 ⟨p1, p2, p3, rfl, h2⟩; have H2 : Hid _ := And.intro h2 (HB0.out.trans (h2.bl.mono HB0.out.size)); clear h2 g1d; have g1 := cl1 ((H2.out.2.block _ hb1w).trans H1.out.1))
      | (go_at_call 157; (with_reducible refine Calls.mono (part_m ⟨#[77]⟩ 1 _ _) ?_); rintro e w3 ⟨p4, p5, p6, rfl, h2⟩; have H3 : Hid _ := And.intro h2 (H2.out.2.trans (h2.bl.mono H2.out.2.size)); clear h2 g1; have g1 := cl1 ((H3.out.2.block _ hb1w).trans H1.out.1))
      | (go_at_call 157; (with_reducible refine Calls.mono (part_m ⟨#[68]⟩ 86400 _ _) ?_); rintro e w4 ⟨p7, p8, p9, rfl, h2⟩; have H4 : Hid _ := And.intro h2 (H3.out.2.trans (h2.bl.mono H3.out.2.size)); clear h2 g1; have g1 := cl1 ((H4.out.2.block _ hb1w).trans H1.out.1); have g1' : (w4.alloc (.cells #[fnV (184, #[pt p1, pt p2, pt p3]), fnV (184, #[pt p4, pt p5, pt p6]), fnV (184, #[pt p7, pt p8, pt p9])] 138)).cell? ⟨b1, 0, none⟩ = some (.pointer (some ⟨D, 0, none⟩)) := (Below.cell (p := ⟨b1, 0, none⟩) ((Below.refl w4.heap.size w4).alloc (Nat.le_refl _) _) (Nat.lt_of_lt_of_le hb1w H4.out.2.size)).trans g1)
      | (go_at_call 113; (refine Calls.mono (days_w H2.out.1 H3.out.1 H4.out.1 HZ.out.1 _ H1.out.2.2.2.2.1) ?_); rintro e w5 ⟨b, p', rfl, h8⟩; have H5 : Hid _ := And.intro h8 trivial; clear g1; have g1 : w5.cell? ⟨b1, 0, none⟩ = some (.pointer (some ⟨D, 0, none⟩)) := cl1 (h8.1.at (show w1.drew.heap[b1]? = _ from H1.out.1) (fun q => n1 q.symm)); clear h8)
      | fail)
    have fr5 : Fro (fun k => k = D) W w5 := (Fro.below H1.out.2.2.1).trans (show Fro (fun k => k = D) w1 w5 from ⟨H5.out.1.1.os, H5.out.1.1.tape, H5.out.1.1.output, H5.out.1.1.size, H5.out.1.1.block⟩)
    have x5 : w5.heap[b1]? = some (.cells #[.pointer (some ⟨D, 0, none⟩)] 140 (0, 0)) := H5.out.1.1.at (show w1.drew.heap[b1]? = _ from H1.out.1) (fun q => n1 q.symm)
    have H6 : Hid _ := And.intro fr5 (And.intro x5 H5.out.1.2)
    clear fr5 x5 g1' H2 H3 H4 H5 HZ HB0
    cases b
    · go_wp2_with fail
      go_ret2
      refine ⟨false, p', rfl, H6.out.1, H6.out.2.2.1.x, ?_⟩
      have hF := H6.out.2.2.2.2 (by first | rfl | trivial)
      rw [HE.out]
      cases hr : runG gsD p (bl dy) with
      | none => rfl
      | some x => rw [Option.bind_some, if_pos (hF x hr)]
    go_wp2_with fail
    have hrun := H6.out.2.2.2.1 (by first | rfl | trivial)
    have hE2 := HE.out
    rw [hrun, Option.bind_some, if_neg (by simp)] at hE2
    have HE2 : Hid _ := hE2
    clear hE2 hrun HE
    have HB0 : Hid (Below w5.heap.size w5 w5.drew) := below_drewN 1
    have hst0 : StS D p' w5.drew := ⟨H6.out.2.2.1.x⟩
    have HZ : Hid _ := And.intro hst0 trivial
    have hb1w5 : b1 < w5.heap.size := lt_of H6.out.2.1
    have g1d : w5.drew.cell? ⟨b1, 0, none⟩ = some (.pointer (some ⟨D, 0, none⟩)) := g1
    clear hst0 g1
    go_region_held3 (fun X => X.cell? ⟨b1, 0, none⟩ = some (.pointer (some ⟨D, 0, none⟩))) (first | exact g1d | exact g1 | exact g1' | fail) (first
      | (go_at_call 157; (with_reducible refine Calls.mono (part_m ⟨#[72]⟩ 3600 _ _) ?_); rintro e w6 ⟨p1, p2, p3, rfl, h2⟩; have H2 : Hid _ := And.intro h2 (HB0.out.trans (h2.bl.mono HB0.out.size)); clear h2 g1d; have g1 := cl1 ((H2.out.2.block _ hb1w5).trans H6.out.2.1))
      | (go_at_call 157; (with_reducible refine Calls.mono (part_m ⟨#[77]⟩ 60 _ _) ?_); rintro e w7 ⟨p4, p5, p6, rfl, h2⟩; have H3 : Hid _ := And.intro h2 (H2.out.2.trans (h2.bl.mono H2.out.2.size)); clear h2 g1; have g1 := cl1 ((H3.out.2.block _ hb1w5).trans H6.out.2.1))
      | (go_at_call 158; (with_reducible refine Calls.mono (last_m _ _) ?_); rintro e w8 ⟨p7, rfl, h2⟩; have H4 : Hid _ := And.intro h2 (H3.out.2.trans (h2.bl.mono H3.out.2.size)); clear h2 g1; have g1 := cl1 ((H4.out.2.block _ hb1w5).trans H6.out.2.1); have g1' : (w8.alloc (.cells #[fnV (184, #[pt p1, pt p2, pt p3]), fnV (184, #[pt p4, pt p5, pt p6]), fnV (186, #[pt p7])] 138)).cell? ⟨b1, 0, none⟩ = some (.pointer (some ⟨D, 0, none⟩)) := (Below.cell (p := ⟨b1, 0, none⟩) ((Below.refl w8.heap.size w8).alloc (Nat.le_refl _) _) (Nat.lt_of_lt_of_le hb1w5 H4.out.2.size)).trans g1)
      | (go_at_call 113; (refine Calls.mono (times_w H2.out.1 H3.out.1 H4.out.1 HZ.out.1 _ H1.out.2.2.2.2.2) ?_); rintro e w9 ⟨b', p'', rfl, h8⟩; have H5 : Hid _ := And.intro h8 trivial; clear g1; have g1 : w9.cell? ⟨b1, 0, none⟩ = some (.pointer (some ⟨D, 0, none⟩)) := cl1 (h8.1.at (show w5.drew.heap[b1]? = _ from H6.out.2.1) (fun q => n1 q.symm)); clear h8)
      | fail)
    have fr9 : Fro (fun k => k = D) W w9 := H6.out.1.trans (show Fro (fun k => k = D) w5 w9 from ⟨H5.out.1.1.os, H5.out.1.1.tape, H5.out.1.1.output, H5.out.1.1.size, H5.out.1.1.block⟩)
    have H7 : Hid _ := And.intro fr9 H5.out.1.2
    clear fr9 g1' H2 H3 H4 H5 HZ HB0
    cases b'
    · go_wp2_with fail
      go_ret2
      refine ⟨false, p'', rfl, H7.out.1, H7.out.2.1.x, ?_⟩
      have hF := H7.out.2.2.2 (by first | rfl | trivial)
      rw [HE2.out]
      cases hr : runG gsT p' (bl tm) with
      | none => rfl
      | some x => rw [Option.bind_some, if_pos (hF x hr)]
    have hrun2 := H7.out.2.2.1 (by first | rfl | trivial)
    have hE3 := HE2.out
    rw [hrun2, Option.bind_some, if_neg (by simp)] at hE3
    have HE3 : Hid _ := hE3
    clear hE3 hrun2 HE2
    cases neg
    · go_wp2_with fail
      go_ret2
      refine ⟨true, p'', rfl, H7.out.1, H7.out.2.1.x, ?_⟩
      rw [HE3.out]
      exact ⟨rfl, rfl⟩
    obtain ⟨po, ps, pn⟩ := p''
    have x9 := H7.out.2.1.x
    obtain ⟨d0, d1, d2⟩ := blk3 x9
    have t0 := (cl_at (i := 0) x9 rfl).2
    have t1 := (cl_at (i := 1) x9 rfl).2
    have t2 := (cl_at (i := 2) x9 rfl).2
    dsimp only at d0 d1 d2
    have xA : (((w9.setCell ⟨D, 0, none⟩ (.int .i64 (wr (-po)))).setCell ⟨D, 1, none⟩ (.int .i64 (wr (-ps)))).setCell ⟨D, 2, none⟩ (.int .i64 (wr (-pn)))).heap[D]? = some (.cells (spC ⟨wr (-po), wr (-ps), wr (-pn)⟩) 38 (0, 0)) := bset (i := 2) (bset (i := 1) (bset (i := 0) x9 (.int .i64 (wr (-po)))) (.int .i64 (wr (-ps)))) (.int .i64 (wr (-pn)))
    have fA := ((H7.out.1.set (X := D) (i := 0) (.inl rfl) (.int .i64 (wr (-po)))).set (X := D) (i := 1) (.inl rfl) (.int .i64 (wr (-ps)))).set (X := D) (i := 2) (.inl rfl) (.int .i64 (wr (-pn)))
    have HA : Hid _ := And.intro xA fA
    clear xA fA x9 H1 H6 H7 hG
    go_wp2_with fail
    go_region
    all_goals
      go_wp2_with fail
      go_ret2
      refine ⟨true, ⟨wr (-po), wr (-ps), wr (-pn)⟩, rfl, HA.out.2.drewN 1, HA.out.1, ?_⟩
      rw [HE3.out]
      exact ⟨rfl, rfl⟩
theorem fc_span {U : World} {D b1 : Nat} (h1 : U.heap[b1]? = some (.cells #[.pointer (some ⟨D, 0, none⟩)] 140 (0, 0))) (n1 : D ≠ b1) : FC U (fun k => k = D) (StS D) (155, #[pt b1]) (fun p l => (spG p l).map fun x => (x, [])) := by
  refine ⟨en_span, fun W p s hW hp hs => ?_⟩
  refine Calls.mono (span_c s b1 D p W (hW.at h1 (fun q => n1 q.symm)) hp.x n1 hs) ?_
  rintro e w' ⟨b, p', rfl, hf, hx, hm⟩
  refine ⟨⟨#[]⟩, b, p', rfl, fro_in hW hf rfl, ⟨hx⟩, Nat.zero_le _, ?_⟩
  cases hg : spG p (bl s) with
  | none => rw [hg] at hm; exact hm
  | some x => rw [hg] at hm; exact ⟨hm.1, hm.2, rfl⟩
end Go.Proofs.YtgaegajcejpmdaaGreatDoor.Dt
namespace Go.Proofs.YtgaegajcejpmdaaGreatDoor.Dt
open Go.RowKit
set_option linter.unusedVariables false

abbrev sp0 : Sp := ⟨0, 0, 0⟩
def PsP (l : List Int) (w : World) (e : Ending) (w' : World) : Prop :=
  Below w.heap.size w w' ∧ e = .returned (.tuple #[spV ((spG sp0 l).getD sp0), .int .i64 (if (spG sp0 l).isSome then 0 else 2)])
theorem put3 {N : Nat} {w W : World} {X : Nat} {o0 o1 o2 : Value} {t : TypeId} (hb : Below N w W) (hX : N ≤ X) (hx : W.heap[X]? = some (.cells #[o0, o1, o2] t (0, 0))) (v0 v1 v2 : Value) :
    ∃ U, (((W.setCell ⟨X, 0, none⟩ v0).setCell ⟨X, 1, none⟩ v1).setCell ⟨X, 2, none⟩ v2) = U ∧ U.heap[X]? = some (.cells #[v0, v1, v2] t (0, 0)) ∧ Below N w U := by
  have x0 := bset (i := 0) hx v0
  simp only [List.setIfInBounds_toArray, List.set_cons_zero] at x0
  have x1 := bset (i := 1) x0 v1
  simp only [List.setIfInBounds_toArray, List.set_cons_zero, List.set_cons_succ] at x1
  have x2 := bset (i := 2) x1 v2
  simp only [List.setIfInBounds_toArray, List.set_cons_zero, List.set_cons_succ] at x2
  exact ⟨_, rfl, x2, ((hb.setCell (p := ⟨X, 0, none⟩) hX v0).setCell (p := ⟨X, 1, none⟩) hX v1).setCell (p := ⟨X, 2, none⟩) hX v2⟩
set_option maxHeartbeats 1000000 in
theorem parseSpan_p (s : ByteArray) (w : World) (hs : s.size ≤ maxLen) : Calls Tryz.prog 61 #[.string s] w (PsP (bl s) w) := by
  obtain ⟨x1, x2, hb0⟩ := box2 w (.cells (spC sp0) 38) (.cells (spC sp0) 38)
  have H0 : Hid _ := And.intro x1 (And.intro x2 hb0)
  clear x1 x2 hb0
  go_enter Tryz.func61, Tryz.ntmps61
  go_wp2_with fail
  generalize hU : ((w.alloc (.cells (spC sp0) 38)).alloc (.cells (spC sp0) 38)) = U at *
  clear hU
  refine Calls.mono (span_m _ _) ?_
  rintro e w1 ⟨b1, rfl, h1⟩
  have H1 : Hid _ := h1
  clear h1
  go_wp2_with fail
  obtain ⟨V, hV⟩ : ∃ V, (w1.alloc (.cells #[fnV (155, #[pt b1])] 138)) = V := ⟨_, rfl⟩
  rw [hV]
  have u1 : Below w1.heap.size w1 V := by rw [← hV]; exact (Below.refl _ _).alloc (Nat.le_refl _) _
  have hVx : V.heap[w1.heap.size]? = some (.cells #[fnV (155, #[pt b1])] 138 (0, 0)) := by rw [← hV]; exact nw_heap _ _
  clear hV
  have u0 := bl_step H1.out.bl u1
  have hDl := lt_of H0.out.2.1
  have hl := H1.out.l
  have hsz := H1.out.bl.size
  have hfc : FCs V (fun k => k = w.heap.size + 1) (StS (w.heap.size + 1)) [(155, #[pt b1])] [fun p l => (spG p l).map fun x => (x, [])] := .cons (fc_span (H1.out.at u1) (by omega)) .nil
  refine Calls.mono (whole_p hfc w1.heap.size hVx (by omega) (by simp) V sp0 s (Fro.refl _ _) ⟨(u0.block _ hDl).trans H0.out.2.1⟩ hs) ?_
  rintro e w2 ⟨b, p, rfl, hfr, hst, hT, hF⟩
  have xR : w2.heap[w.heap.size]? = some (.cells (spC sp0) 38 (0, 0)) := hfr.at ((u0.block _ (lt_of H0.out.1)).trans H0.out.1) (by omega)
  have fr2 : Below w.heap.size w w2 := H0.out.2.2.trans (((Fro.below (O := fun j => j = w.heap.size + 1) u0).trans hfr).toBelow (Nat.le_of_lt (lt_of H0.out.1)) (fun i hi q => by omega))
  have hr : runG [fun (p : Sp) l => (spG p l).map fun x => (x, [])] sp0 (bl s) = (spG sp0 (bl s)).map fun x => (x, []) := by
    simp only [runG]
    cases spG sp0 (bl s) <;> rfl
  rw [hr] at hT hF
  have h1 : b = true → spG sp0 (bl s) = some p := fun q => by
    have := hT q
    cases hg : spG sp0 (bl s) with
    | none => rw [hg] at this; cases this
    | some x => rw [hg] at this; cases this; rfl
  have h0 : b = false → spG sp0 (bl s) = none := fun q => by
    cases hg : spG sp0 (bl s) with
    | none => rfl
    | some x => rw [hg] at hF; exact absurd rfl (hF q (x, []) rfl)
  obtain ⟨r0, r1, r2⟩ := blk3 xR
  have t0 := (cl_at (i := 0) xR rfl).2
  have t1 := (cl_at (i := 1) xR rfl).2
  have t2 := (cl_at (i := 2) xR rfl).2
  obtain ⟨d0, d1, d2⟩ := blk3 hst.x
  have HX : Hid _ := And.intro xR (And.intro fr2 (And.intro h0 h1))
  clear xR fr2 h0 h1 hr hT hF hst hfr hfc u0 u1 hVx H0 H1 hDl hl hsz
  obtain ⟨po, ps, pn⟩ := p
  dsimp only at *
  cases b
  · have HR : Hid _ := HX.out.2.2.1 rfl
    go_wp2_with fail
    obtain ⟨U2, hU2, hx2, hb2⟩ := put3 (X := w.heap.size) HX.out.2.1 (Nat.le_refl _) HX.out.1 (.int .i64 0) (.int .i64 0) (.int .i64 0)
    rw [hU2]
    obtain ⟨q0, q1, q2⟩ := blk3 hx2
    refine bodyPost_ret (v := .tuple #[spV sp0, .int .i64 2]) (by simp [results, Tryz.results61, go_sem, q0, q1, q2]) rfl ⟨hb2, ?_⟩
    rw [HR.out]
    rfl
  · have HR : Hid _ := HX.out.2.2.2 rfl
    go_wp2_with fail
    obtain ⟨U2, hU2, hx2, hb2⟩ := put3 (X := w.heap.size) HX.out.2.1 (Nat.le_refl _) HX.out.1 (.int .i64 po) (.int .i64 ps) (.int .i64 pn)
    rw [hU2]
    obtain ⟨q0, q1, q2⟩ := blk3 hx2
    refine bodyPost_ret (v := .tuple #[spV ⟨po, ps, pn⟩, .int .i64 0]) (by simp [results, Tryz.results61, go_sem, q0, q1, q2]) rfl ⟨hb2, ?_⟩
    rw [HR.out]
    rfl
end Go.Proofs.YtgaegajcejpmdaaGreatDoor.Dt
namespace Go.Proofs.YtgaegajcejpmdaaGreatDoor.Dt
open Go.RowKit
set_option linter.unusedVariables false

theorem wr_id {x : Int} (h0 : -9223372036854775808 ≤ x) (h1 : x ≤ 9223372036854775807) : wr x = x := by unfold wr wrap64; omega
theorem ptG_in {c : Int} {l : List Int} {y : Int × List Int} (h : ptG c l = some y) : 0 ≤ y.1 ∧ y.1 < 1000000000 := by
  unfold ptG at h
  split at h
  · cases h
    exact dvl_bd (dk_le 9 l).2.2 (dk_le 9 l).1
  · cases h
/-- A part, as the program reads it, and as the document's. -/
def Pp {R : Type} (c : Int) (A : Int → Bool → List Int → Option R) (x : List Int) : Option R := match ptG c x with | some y => A y.1 true y.2 | none => A 0 false x
def Qq {R : Type} (c : Int) (A : Int → Bool → List Int → Option R) (x : List Int) : Option R := (ptB c x).bind fun y => A y.1.1 y.1.2 y.2
def Fl {R : Type} (A : List Int → Option R) : Prop := ∀ r, 9 < dgs r → A r = none
theorem ptG_big {c : Int} (hc : isD c = false) {x : List Int} (h : 9 < dgs x) : ptG c x = none := by
  have hk : dk 9 x = 9 := by unfold dk; omega
  unfold ptG
  rw [hk, if_neg (fun q => dig_ne (drop_dig h) hc q.2)]
theorem ptB_big {c : Int} {x : List Int} (h : 9 < dgs x) : ptB c x = none ∨ ptB c x = some ((0, false), x) := by
  unfold ptB
  split
  · exact .inr rfl
  · exact .inl rfl
theorem ptB_small {c : Int} {x : List Int} (h : dgs x ≤ 9) : ptB c x = some (match ptG c x with | some y => ((y.1, true), y.2) | none => ((0, false), x)) := by
  have hk : dk 9 x = dgs x := by unfold dk; omega
  unfold ptB ptG
  rw [hk]
  by_cases h0 : dgs x = 0
  · rw [if_pos (.inl h0), if_neg (by omega)]
  · by_cases h1 : (x.drop (dgs x)).head? = some c
    · rw [if_neg (by simp [h0, h1]), if_neg (by omega), if_pos ⟨by omega, h1⟩]
      simp [List.tail_drop]
    · rw [if_pos (.inr h1), if_neg (fun q => h1 q.2)]
theorem Fl.p {R : Type} {c : Int} (hc : isD c = false) {A : Int → Bool → List Int → Option R} (h : ∀ v b, Fl (A v b)) : Fl (Pp c A) := fun r hr => by
  unfold Pp
  rw [ptG_big hc hr]
  exact h _ _ r hr
theorem pq {R : Type} {c : Int} (hc : isD c = false) {A : Int → Bool → List Int → Option R} (h : ∀ v b, Fl (A v b)) (x : List Int) : Pp c A x = Qq c A x := by
  unfold Pp Qq
  by_cases hx : 9 < dgs x
  · rw [ptG_big hc hx]
    rcases ptB_big (c := c) hx with e | e
    · rw [e]; exact h _ _ x hx
    · rw [e]; rfl
  · rw [ptB_small (by omega), Option.bind_some]
    cases ptG c x <;> rfl
theorem pp_congr {R : Type} {c : Int} {A B : Int → Bool → List Int → Option R} {x : List Int} (h : ∀ v b r, 0 ≤ v → v < 1000000000 → (b = false → r = x) → A v b r = B v b r) : Pp c A x = Pp c B x := by
  unfold Pp
  cases hg : ptG c x with
  | none => exact h 0 false x (by omega) (by omega) (fun _ => rfl)
  | some y => exact h _ _ _ (ptG_in hg).1 (ptG_in hg).2 (fun q => by cases q)
theorem pp_none {R : Type} {c : Int} {A : Int → Bool → List Int → Option R} {x : List Int} (h : ∀ v b r, A v b r = none) : Pp c A x = none := by
  unfold Pp
  cases ptG c x with
  | none => exact h _ _ _
  | some y => exact h _ _ _
theorem run_po {R : Type} {c unit : Int} {gs : List (Gd Sp)} {p : Sp} {x : List Int} {K : Sp × List Int → Option R} (h0 : -1000000000000 ≤ p.o) (h1 : p.o ≤ 1000000000000) (u0 : 0 ≤ unit) (u1 : unit ≤ 86400) : (runG (gPo c unit :: gs) p x).bind K = Pp c (fun v b r => (runG gs { p with o := p.o + v * unit } r).bind K) x := by
  unfold Pp
  simp only [runG, gPo, Option.bind_some]
  cases hg : ptG c x with
  | none => simp
  | some y =>
    have b := ptG_in hg
    have hm : 0 ≤ y.1 * unit ∧ y.1 * unit ≤ 999999999 * 86400 := ⟨Int.mul_nonneg b.1 u0, by
      have p1 : y.1 * unit ≤ 999999999 * unit := Int.mul_le_mul_of_nonneg_right (by omega) u0
      omega⟩
    dsimp only
    rw [wr_id (by omega) (by omega)]
theorem run_ps {R : Type} {c unit : Int} {gs : List (Gd Sp)} {p : Sp} {x : List Int} {K : Sp × List Int → Option R} (h0 : -1000000000000000 ≤ p.s) (h1 : p.s ≤ 1000000000000000) (u0 : 0 ≤ unit) (u1 : unit ≤ 86400) : (runG (gPs c unit :: gs) p x).bind K = Pp c (fun v b r => (runG gs { p with s := p.s + v * unit } r).bind K) x := by
  unfold Pp
  simp only [runG, gPs, Option.bind_some]
  cases hg : ptG c x with
  | none => simp
  | some y =>
    have b := ptG_in hg
    have hm : 0 ≤ y.1 * unit ∧ y.1 * unit ≤ 999999999 * 86400 := ⟨Int.mul_nonneg b.1 u0, by
      have p1 : y.1 * unit ≤ 999999999 * unit := Int.mul_le_mul_of_nonneg_right (by omega) u0
      omega⟩
    dsimp only
    rw [wr_id (by omega) (by omega)]
theorem mk_dig_none {σ : Type} {a : σ} {l : List Int} (h : Dig l) : gMk 83 a l = none := by unfold gMk; rw [if_neg (dig_ne h (by decide))]
/-- Seconds: the last part. -/
theorem last_sc {p : Sp} (h0 : 0 ≤ p.s) (h1 : p.s ≤ 1000000000000000) (hn : p.n = 0) {R : Type} (K : Sp → Option R) {l : List Int} (hl : l ≠ []) : ((lpG p l).bind fun y => if y.2 ≠ [] then none else K y.1) = (scB l).bind fun s => K ⟨p.o, p.s + s.1, s.2⟩ := by
  unfold lpG gL3 scB
  rw [if_neg hl]
  simp only [runG]
  by_cases h9 : 9 < dgs l
  · rw [if_pos (show dgs l < 1 ∨ 9 < dgs l from .inr h9)]
    have hk : dk 9 l = 9 := by unfold dk; omega
    have hd := drop_dig h9
    rw [hk, if_pos (by omega)]
    have hfr : frG (l.drop 9) = some (none, l.drop 9) := by unfold frG; rw [if_neg (dig_ne hd (by decide))]
    simp only [Option.bind_some, hfr, Option.map_some, mk_dig_none hd]
    rfl
  · have hk : dk 9 l = dgs l := by unfold dk; omega
    rw [hk]
    by_cases hz : dgs l = 0
    · rw [if_neg (show ¬ 0 < dgs l by omega), if_pos (show dgs l < 1 ∨ 9 < dgs l from .inl (by omega))]
      rfl
    · rw [if_pos (show 0 < dgs l by omega), if_neg (show ¬ (dgs l < 1 ∨ 9 < dgs l) by omega)]
      have hnm : nmB (dgs l) l = some (dvl (l.take (dgs l)), l.drop (dgs l)) := by unfold nmB; rw [if_neg (by omega)]
      have hb := dvl_bd (l := l) (j := dgs l) (Nat.le_refl _) (by omega)
      rw [hnm]
      simp only [Option.bind_some]
      generalize l.drop (dgs l) = r
      generalize dvl (l.take (dgs l)) = V at *
      unfold frG frB
      by_cases h46 : r.head? = some 46
      · rw [if_pos h46, if_pos h46]
        by_cases hf9 : 9 < dgs r.tail
        · have hk2 : dk 9 r.tail = 9 := by unfold dk; omega
          have hd2 := drop_dig hf9
          rw [hk2, if_neg (show ¬ (9 : Nat) = 0 by omega), if_pos (show dgs r.tail < 1 ∨ 9 < dgs r.tail from .inr hf9)]
          simp only [Option.map_some, Option.bind_some, mk_dig_none hd2]
          rfl
        · have hk2 : dk 9 r.tail = dgs r.tail := by unfold dk; omega
          rw [hk2]
          by_cases hf0 : dgs r.tail = 0
          · rw [if_pos hf0, if_pos (show dgs r.tail < 1 ∨ 9 < dgs r.tail from .inl (by omega))]
            rfl
          · rw [if_neg hf0, if_neg (show ¬ (dgs r.tail < 1 ∨ 9 < dgs r.tail) by omega)]
            have hnm2 : nmB (dgs r.tail) r.tail = some (dvl (r.tail.take (dgs r.tail)), r.tail.drop (dgs r.tail)) := by unfold nmB; rw [if_neg (by omega)]
            rw [hnm2]
            simp only [Option.map_some, Option.bind_some]
            unfold gMk tkB
            split
            · simp only [Option.bind_some, Option.map_some]
              rw [wr_id (by omega) (by omega)]
              by_cases he : (r.tail.drop (dgs r.tail)).tail = []
              · rw [if_neg (by simpa using he), if_pos he]; rfl
              · rw [if_pos he, if_neg he]; rfl
            · rfl
      · rw [if_neg h46, if_neg h46]
        simp only [Option.map_some, Option.bind_some]
        unfold gMk tkB
        split
        · simp only [Option.bind_some, Option.map_some]
          rw [wr_id (by omega) (by omega)]
          by_cases he : r.tail = []
          · rw [if_neg (by simpa using he), if_pos he]
            simp [hn]
          · rw [if_pos he, if_neg he]; rfl
        · rfl
/-- Where no T stands ahead of the cut. -/
theorem ix_none : ∀ (l : List Int), ix l = -1 → ∀ c ∈ l, c ≠ 84
  | [], _, c, hc => by cases hc
  | b :: l, h, c, hc => by
    rw [ix] at h
    by_cases h1 : b = 84
    · rw [if_pos h1] at h; omega
    · rw [if_neg h1] at h
      by_cases h2 : ix l = -1
      · rcases List.mem_cons.1 hc with rfl | hc
        · exact h1
        · exact ix_none l h2 c hc
      · rw [if_neg h2] at h; have := ix_bd l; omega
theorem ix_some : ∀ (l : List Int) (k : Nat), ix l = k → (∀ c ∈ l.take k, c ≠ 84) ∧ l = l.take k ++ 84 :: l.drop (k + 1)
  | [], k, h => by simp [ix] at h
  | b :: l, k, h => by
    rw [ix] at h
    by_cases h1 : b = 84
    · rw [if_pos h1] at h
      have : k = 0 := by omega
      subst this
      simp [h1]
    · rw [if_neg h1] at h
      by_cases h2 : ix l = -1
      · rw [if_pos h2] at h; omega
      · rw [if_neg h2] at h
        obtain ⟨j, rfl⟩ : ∃ j, k = j + 1 := ⟨k - 1, by have := ix_bd l; omega⟩
        obtain ⟨a, b'⟩ := ix_some l j (by omega)
        refine ⟨?_, ?_⟩
        · intro c hc
          rw [List.take_succ_cons] at hc
          rcases List.mem_cons.1 hc with rfl | hc
          · exact h1
          · exact a c hc
        · rw [List.take_succ_cons, List.drop_succ_cons, List.cons_append, ← b']
/-- A row that ends, or goes on with a T. -/
def Sfx (S : List Int) : Prop := S = [] ∨ S.head? = some 84
theorem dgs_sfx {x S : List Int} (h : Sfx S) : dgs (x ++ S) = dgs x := by
  induction x with
  | nil =>
    rcases h with rfl | h
    · rfl
    · cases S with
      | nil => rfl
      | cons c S => simp at h; subst h; simp [dgs, isD]
  | cons c x ih =>
    rw [List.cons_append, dgs_cons, dgs_cons, ih]
theorem drop_sfx {x S : List Int} {n : Nat} (hn : n ≤ x.length) : (x ++ S).drop n = x.drop n ++ S := List.drop_append_of_le_length hn
theorem ptB_sfx {c : Int} (hc : c ≠ 84) {x S : List Int} (h : Sfx S) : ptB c (x ++ S) = (ptB c x).map fun y => (y.1, y.2 ++ S) := by
  have hl := dgs_len x
  have hh : ((x ++ S).drop (dgs x)).head? = some c ↔ (x.drop (dgs x)).head? = some c := by
    rw [drop_sfx hl]
    cases hx : x.drop (dgs x) with
    | nil =>
      rw [List.nil_append]
      rcases h with rfl | h
      · exact Iff.rfl
      · rw [h]; simp; exact fun e => hc e.symm
    | cons b r => simp
  unfold ptB
  rw [dgs_sfx h]
  by_cases h0 : dgs x = 0 ∨ (x.drop (dgs x)).head? ≠ some c
  · have h0' : dgs x = 0 ∨ ((x ++ S).drop (dgs x)).head? ≠ some c := h0.imp id (fun q e => q (hh.1 e))
    rw [if_pos h0, if_pos h0']
    rfl
  · have h0' : ¬ (dgs x = 0 ∨ ((x ++ S).drop (dgs x)).head? ≠ some c) := fun q => h0 (q.imp id (fun q e => q (hh.2 e)))
    rw [if_neg h0, if_neg h0']
    by_cases h9 : 9 < dgs x
    · rw [if_pos h9, if_pos h9]; rfl
    · rw [if_neg h9, if_neg h9]
      have hlt : dgs x < x.length := by
        by_cases e : dgs x = x.length
        · exfalso; apply h0; right; rw [e, List.drop_length]; simp
        · omega
      rw [Option.map_some, List.take_append_of_le_length hl, drop_sfx (by omega)]
/-- The rests are without a T too. -/
theorem ptB_mem {c : Int} {x : List Int} {y : (Int × Bool) × List Int} (h : ptB c x = some y) : (∀ d ∈ y.2, d ∈ x) ∧ (y.1.2 = false → y.2 = x) := by
  unfold ptB at h
  split at h
  · cases h; exact ⟨fun d hd => hd, fun _ => rfl⟩
  · split at h
    · cases h
    · cases h; exact ⟨fun d hd => List.mem_of_mem_drop hd, fun q => by cases q⟩
/-- The end of a span's text. -/
def Tm (td : Bool) (tl : List Int) (any : Bool) : Option (Int × Int) := if td = true then tmB tl else if any = true then some (0, 0) else none
def Ee (td : Bool) (tl : List Int) (N : Int → Int → Int → Int × Int → Sp) (any : Bool) (r : List Int) (y o d : Int) : Option Sp := if r ≠ [] then none else (Tm td tl any).map (N y o d)
theorem Ee_fl (td : Bool) (tl : List Int) (N : Int → Int → Int → Int × Int → Sp) (any : Bool) (y o d : Int) : Fl (fun r => Ee td tl N any r y o d) := fun r hr => by
  have hn : r ≠ [] := by rintro rfl; simp [dgs] at hr
  show Ee td tl N any r y o d = none
  unfold Ee
  rw [if_pos hn]
theorem tm_eq {tl : List Int} : tmB tl = Pp 72 (fun h b r => Pp 77 (fun m b' r' => if r' = [] then (if b || b' then some (3600 * h + 60 * m, 0) else none) else (scB r').map fun s => (3600 * h + 60 * m + s.1, s.2)) r) tl := by
  have fl : ∀ (h : Int) (b : Bool) (v : Int) (b' : Bool), Fl (fun r' : List Int => if r' = [] then (if b || b' then some (3600 * h + 60 * v, (0 : Int)) else none) else (scB r').map fun s => (3600 * h + 60 * v + s.1, s.2)) := by
    intro h b v b' r hr
    have hn : r ≠ [] := by rintro rfl; simp [dgs] at hr
    dsimp only
    rw [if_neg hn]
    unfold scB
    rw [if_pos (.inr hr)]
    rfl
  have e : (fun (h : Int) (b : Bool) (r : List Int) => Pp 77 (fun m b' r' => if r' = [] then (if b || b' then some (3600 * h + 60 * m, (0 : Int)) else none) else (scB r').map fun s => (3600 * h + 60 * m + s.1, s.2)) r) = fun h b r => Qq 77 (fun m b' r' => if r' = [] then (if b || b' then some (3600 * h + 60 * m, (0 : Int)) else none) else (scB r').map fun s => (3600 * h + 60 * m + s.1, s.2)) r := by
    funext h b r
    exact pq (by decide) (fl h b) r
  rw [pq (by decide) (fun h b => Fl.p (by decide) (fl h b)), e]
  unfold tmB Qq
  refine obind fun h _ => obind fun m _ => ?_
  rfl
/-- The program's end, with the span so far. -/
theorem tail_eq {p : Sp} (p0 : 0 ≤ p.s) (p1 : p.s ≤ 100000000000000) (pn : p.n = 0) (K : Sp → Option Sp) {td : Bool} {tl : List Int} (h0 : td = false → tl = []) (h1 : td = true → tl ≠ []) {any : Bool} (ha : td = false → any = true) :
    ((runG gsT p tl).bind fun y => if y.2 ≠ [] then none else K y.1) = (Tm td tl any).bind fun t => K ⟨p.o, p.s + t.1, t.2⟩ := by
  cases td with
  | false =>
    rw [h0 rfl]
    unfold Tm
    rw [if_neg (by simp), if_pos (ha rfl)]
    have hp : ∀ c, ptG c [] = none := fun c => by simp [ptG, dk, dgs]
    simp only [gsT, runG, gPs, hp, Option.bind_some, lpG, if_true]
    rw [if_neg (by simp), Int.add_zero]
    congr 1
    cases p
    simp at pn
    subst pn
    rfl
  | true =>
    unfold Tm
    rw [if_pos rfl, tm_eq]
    unfold gsT
    rw [run_ps (by omega) (by omega) (by omega) (by omega)]
    have hbind : ∀ {R R' : Type} {c : Int} {A : Int → Bool → List Int → Option R} {x : List Int} {F : R → Option R'}, (Pp c A x).bind F = Pp c (fun v b r => (A v b r).bind F) x := by
      intro R R' c A x F
      unfold Pp
      cases ptG c x <;> rfl
    rw [hbind]
    refine pp_congr fun h b r hh0 hh1 hb => ?_
    rw [run_ps (by dsimp only; omega) (by dsimp only; omega) (by omega) (by omega), hbind]
    refine pp_congr fun m b' r' hm0 hm1 hb' => ?_
    have hs : p.s + h * 3600 + m * 60 = p.s + (3600 * h + 60 * m) := by omega
    dsimp only
    by_cases hr : r' = []
    · subst hr
      rw [if_pos rfl]
      have hany : (b || b') = true := by
        cases b with
        | true => rfl
        | false =>
          cases b' with
          | true => rfl
          | false => exact absurd ((hb rfl).symm.trans (hb' rfl).symm) (h1 rfl)
      rw [if_pos hany, Option.bind_some]
      simp only [runG, lpG, if_true, Option.bind_some]
      rw [if_neg (by simp), hs]
      congr 1
      cases p
      simp at pn
      subst pn
      rfl
    · rw [if_neg hr]
      simp only [runG, Option.bind_assoc, Option.bind_some]
      have := last_sc (p := { p with s := p.s + h * 3600 + m * 60 }) (by dsimp only; omega) (by dsimp only; omega) pn K hr
      refine this.trans ?_
      cases scB r' with
      | none => rfl
      | some sc =>
        simp only [Option.map_some, Option.bind_some]
        rw [hs, Int.add_assoc]
theorem pt_in {c : Int} {l : List Int} {y : (Int × Bool) × List Int} (h : ptB c l = some y) : 0 ≤ y.1.1 ∧ y.1.1 < 1000000000 := by
  unfold ptB at h
  split at h
  · cases h; simp
  · split at h
    · cases h
    · cases h
      exact dvl_bd (Nat.le_refl _) (by omega)
theorem sc_in {l : List Int} {s : Int × Int} (h : scB l = some s) : 0 ≤ s.1 ∧ s.1 < 1000000000 ∧ 0 ≤ s.2 ∧ s.2 < 1000000000 := by
  unfold scB at h
  split at h
  · cases h
  · rename_i hd
    obtain ⟨a, ha, h⟩ := Option.bind_eq_some_iff.1 h
    obtain ⟨f, hf, h⟩ := Option.bind_eq_some_iff.1 h
    obtain ⟨r, _, h⟩ := Option.bind_eq_some_iff.1 h
    have b1 : 0 ≤ a.1 ∧ a.1 < 1000000000 := by
      unfold nmB at ha
      rw [if_neg (by omega)] at ha
      cases ha
      exact dvl_bd (Nat.le_refl _) (by omega)
    have b2 := fr_in hf
    split at h
    · cases h
      exact ⟨b1.1, b1.2, b2.1, b2.2⟩
    · cases h
theorem tm_in {l : List Int} {t : Int × Int} (h : tmB l = some t) : 0 ≤ t.1 ∧ t.1 ≤ 100000000000000 ∧ 0 ≤ t.2 ∧ t.2 < 1000000000 := by
  unfold tmB at h
  obtain ⟨a, ha, h⟩ := Option.bind_eq_some_iff.1 h
  obtain ⟨m, hm, h⟩ := Option.bind_eq_some_iff.1 h
  have b1 := pt_in ha
  have b2 := pt_in hm
  split at h
  · split at h
    · cases h; dsimp only; omega
    · cases h
  · obtain ⟨sc, hs, rfl⟩ := Option.map_eq_some_iff.1 h
    have b3 := sc_in hs
    dsimp only
    omega
theorem sp_eq (l : List Int) : spG sp0 l = prP l := by
  unfold spG prP
  have e1 : (if l.head? = some 45 then l.tail else l) = sgB l := rfl
  simp only [e1]
  generalize sgB l = s1
  by_cases hP : s1.head? = some 80
  · have e2 : tkB 80 s1 = some (spP s1) := by unfold tkB spP; rw [if_pos hP, if_pos hP]
    rw [e2, Option.bind_some]
    generalize spP s1 = l2
    -- the cut
    obtain ⟨dl, tl, td, hct, hl2, hdl, htd⟩ : ∃ dl tl td, ctB l2 = (dl, tl, td) ∧ l2 = dl ++ (if td = true then 84 :: tl else []) ∧ (∀ c ∈ dl, c ≠ 84) ∧ (td = false → tl = []) := by
      unfold ctB
      by_cases h : ix l2 = -1
      · rw [if_pos h]
        exact ⟨l2, [], false, rfl, by simp, ix_none l2 h, fun _ => rfl⟩
      · rw [if_neg h]
        obtain ⟨k, hk⟩ : ∃ k : Nat, ix l2 = k := ⟨(ix l2).toNat, by have := ix_bd l2; omega⟩
        obtain ⟨a, b⟩ := ix_some l2 k hk
        rw [hk]
        exact ⟨l2.take k, l2.drop (k + 1), true, rfl, by simpa using b, a, fun q => by cases q⟩
    rw [hct]
    dsimp only
    obtain ⟨neg, hneg⟩ : ∃ neg : Bool, decide (l.head? = some 45) = neg := ⟨_, rfl⟩
    have hnp : l.head? = some 45 ↔ neg = true := by rw [← hneg]; simp
    rw [hneg]
    obtain ⟨N, hN⟩ : ∃ N : Int → Int → Int → Int × Int → Sp, N = fun y o d t => if neg = true then ⟨-(12 * y + o), -(86400 * d + t.1), -t.2⟩ else ⟨12 * y + o, 86400 * d + t.1, t.2⟩ := ⟨_, rfl⟩
    have hS : Sfx (if td = true then 84 :: tl else []) := by
      cases td
      · exact .inl rfl
      · exact .inr rfl
    have hrhs : ((ptB 89 l2).bind fun y => (ptB 77 y.2).bind fun o => (ptB 68 o.2).bind fun d => ((if d.2.head? = some 84 then (tmB d.2.tail) else if d.2 = [] ∧ (y.1.2 || o.1.2 || d.1.2) then some (0, 0) else none)).map fun t => if l.head? = some 45 then (⟨-(12 * y.1.1 + o.1.1), -(86400 * d.1.1 + t.1), -t.2⟩ : Sp) else ⟨12 * y.1.1 + o.1.1, 86400 * d.1.1 + t.1, t.2⟩)
        = Pp 89 (fun y b1 r1 => Pp 77 (fun o b2 r2 => Pp 68 (fun d b3 r3 => Ee td tl N (b1 || b2 || b3) r3 y o d) r2) r1) dl := by
      have f3 : ∀ (y o : Int) (b1 b2 : Bool) (d : Int) (b3 : Bool), Fl (fun r3 => Ee td tl N (b1 || b2 || b3) r3 y o d) := fun y o b1 b2 d b3 => Ee_fl td tl N _ y o d
      have f2 : ∀ (y : Int) (b1 : Bool) (o : Int) (b2 : Bool), Fl (fun r2 => Pp 68 (fun d b3 r3 => Ee td tl N (b1 || b2 || b3) r3 y o d) r2) := fun y b1 o b2 => Fl.p (by decide) (f3 y o b1 b2)
      have f1 : ∀ (y : Int) (b1 : Bool), Fl (fun r1 => Pp 77 (fun o b2 r2 => Pp 68 (fun d b3 r3 => Ee td tl N (b1 || b2 || b3) r3 y o d) r2) r1) := fun y b1 => Fl.p (by decide) (f2 y b1)
      rw [pq (by decide) f1]
      unfold Qq
      rw [hl2, ptB_sfx (by decide) hS, Option.bind_map]
      refine obind fun y hy => ?_
      dsimp only [Function.comp]
      rw [pq (c := 77) (by decide) (f2 y.1.1 y.1.2)]
      unfold Qq
      rw [ptB_sfx (by decide) hS, Option.bind_map]
      refine obind fun o ho => ?_
      dsimp only [Function.comp]
      rw [pq (c := 68) (by decide) (f3 y.1.1 o.1.1 y.1.2 o.1.2)]
      unfold Qq
      rw [ptB_sfx (by decide) hS, Option.bind_map]
      refine obind fun d hd => ?_
      dsimp only [Function.comp]
      have hmem : ∀ c ∈ d.2, c ≠ 84 := fun c hc => hdl c ((ptB_mem hy).1 c ((ptB_mem ho).1 c ((ptB_mem hd).1 c hc)))
      have hfun : (fun t : Int × Int => if l.head? = some 45 then (⟨-(12 * y.1.1 + o.1.1), -(86400 * d.1.1 + t.1), -t.2⟩ : Sp) else ⟨12 * y.1.1 + o.1.1, 86400 * d.1.1 + t.1, t.2⟩) = N y.1.1 o.1.1 d.1.1 := by
        rw [hN]
        funext t
        by_cases q : l.head? = some 45
        · dsimp only
          rw [if_pos q, if_pos (hnp.1 q)]
        · dsimp only
          rw [if_neg q, if_neg (fun e => q (hnp.2 e))]
      rw [hfun]
      clear hfun
      unfold Ee Tm
      obtain ⟨dv, dr⟩ := d
      dsimp only at hmem ⊢
      cases dr with
      | cons c r =>
        have hc : c ≠ 84 := hmem c (by simp)
        rw [if_neg (by simpa using hc), if_neg (by simp), if_pos (by simp)]
        rfl
      | nil =>
        rw [if_neg (show ¬ (([] : List Int) ≠ []) by simp)]
        cases td
        · simp
        · simp
    rw [hrhs]
    by_cases hno : l2 = [] ∨ (td = true ∧ tl = [])
    · rw [if_pos (.inr hno)]
      symm
      rcases hno with hno | ⟨h1, h2⟩
      · rw [hno] at hl2
        have hdl0 : dl = [] := by
          cases dl with
          | nil => rfl
          | cons c r => simp at hl2
        have htd0 : td = false := by
          cases td
          · rfl
          · rw [hdl0] at hl2; simp at hl2
        rw [hdl0]
        have hp : ∀ c, ptG c [] = none := fun c => by simp [ptG, dk, dgs]
        simp only [Pp, hp]
        unfold Ee Tm
        rw [htd0]
        simp
      · refine pp_none fun y b1 r1 => pp_none fun o b2 r2 => pp_none fun d b3 r3 => ?_
        unfold Ee Tm
        rw [h1, h2]
        have : tmB [] = none := by decide
        rw [if_pos rfl, this]
        simp
    · rw [if_neg (fun q => q.elim (fun q => q hP) hno)]
      unfold gsD
      rw [run_po (by simp) (by simp) (by omega) (by omega)]
      refine pp_congr fun y b1 r1 hy0 hy1 hb1 => ?_
      rw [run_po (by dsimp only; omega) (by dsimp only; omega) (by omega) (by omega)]
      refine pp_congr fun o b2 r2 ho0 ho1 hb2 => ?_
      rw [run_ps (by simp) (by simp) (by omega) (by omega)]
      refine pp_congr fun d b3 r3 hd0 hd1 hb3 => ?_
      simp only [runG, Option.bind_some]
      unfold Ee
      by_cases hr : r3 = []
      · subst hr
        rw [if_neg (by simp), if_neg (by simp)]
        have hany : td = false → (b1 || b2 || b3) = true := fun q => by
          cases b1 with
          | true => rfl
          | false =>
            cases b2 with
            | true => rfl
            | false =>
              cases b3 with
              | true => rfl
              | false =>
                exfalso
                apply hno
                left
                have e := (hb3 rfl).trans ((hb2 rfl).trans (hb1 rfl))
                rw [hl2, q, ← e]
                rfl
        have := tail_eq (p := ⟨0 + y * 12 + o * 1, 0 + d * 86400, 0⟩) (by dsimp only; omega) (by dsimp only; omega) rfl (fun q => some (ngP neg q)) htd (fun q e => hno (.inr ⟨q, e⟩)) hany
        refine this.trans ?_
        cases ht : Tm td tl (b1 || b2 || b3) with
        | none => rfl
        | some t =>
          have hb : 0 ≤ t.1 ∧ t.1 ≤ 100000000000000 ∧ 0 ≤ t.2 ∧ t.2 < 1000000000 := by
            unfold Tm at ht
            split at ht
            · exact tm_in ht
            · split at ht
              · cases ht; simp
              · cases ht
          simp only [Option.bind_some, Option.map_some]
          rw [hN]
          unfold ngP
          cases neg
          · simp only [Bool.false_eq_true, if_false]
            congr 2 <;> omega
          · simp only [if_true]
            rw [wr_id (by omega) (by omega), wr_id (by omega) (by omega), wr_id (by omega) (by omega)]
            congr 2 <;> omega
      · rw [if_pos hr, if_pos hr]
  · rw [if_pos (.inl hP)]
    have e2 : tkB 80 s1 = none := by unfold tkB; rw [if_neg hP]
    rw [e2]
    rfl
end Go.Proofs.YtgaegajcejpmdaaGreatDoor.Dt
namespace Go.Proofs.YtgaegajcejpmdaaGreatDoor.Dt
open Go.RowKit
set_option linter.unusedVariables false

/-- Parse of a kind from 1 to 8. -/
theorem parse_k (k : Int) (s : ByteArray) (w : World) (hs : s.size ≤ maxLen) (h1 : 1 ≤ k) (h8 : k ≤ 8) : Calls Tryz.prog 62 #[.int .i64 k, .string s] w fun e w' => e = .returned (.tuple #[moV ((prM k (bl s)).getD z0), .int .i64 (if (prM k (bl s)).isSome then 0 else 2)]) ∧ Below w.heap.size w w' := by
  refine Calls.mono (parse_p k s w hs) ?_
  rintro e w' ⟨hb, rfl⟩
  rw [pa_pr h1 h8, if_pos ⟨h1, h8⟩, if_pos ⟨h1, h8⟩]
  exact ⟨rfl, hb⟩
theorem parse_bad (k : Int) (s : ByteArray) (w : World) (hs : s.size ≤ maxLen) (h : ¬ (1 ≤ k ∧ k ≤ 8)) : Calls Tryz.prog 62 #[.int .i64 k, .string s] w fun e w' => e = .returned (.tuple #[moV z0, .int .i64 1]) ∧ Below w.heap.size w w' := by
  refine Calls.mono (parse_p k s w hs) ?_
  rintro e w' ⟨hb, rfl⟩
  rw [if_neg h, if_neg h]
  exact ⟨rfl, hb⟩
theorem span_k (s : ByteArray) (w : World) (hs : s.size ≤ maxLen) : Calls Tryz.prog 61 #[.string s] w fun e w' => e = .returned (.tuple #[spV ((prP (bl s)).getD sp0), .int .i64 (if (prP (bl s)).isSome then 0 else 2)]) ∧ Below w.heap.size w w' := by
  refine Calls.mono (parseSpan_p s w hs) ?_
  rintro e w' ⟨hb, rfl⟩
  rw [sp_eq]
  exact ⟨rfl, hb⟩
abbrev t1 : ByteArray := ⟨#[50, 48, 48, 48, 45, 48, 50, 45, 50, 57, 84, 50, 52, 58, 48, 48, 58, 48, 48]⟩
abbrev t2 : ByteArray := ⟨#[50, 48, 48, 48, 45, 48, 51, 45, 48, 49, 84, 48, 48, 58, 48, 48, 58, 48, 48, 90]⟩
abbrev t3 : ByteArray := ⟨#[49, 57, 48, 48, 45, 48, 50, 45, 50, 57]⟩
abbrev t4 : ByteArray := ⟨#[80, 49, 77]⟩
abbrev t5 : ByteArray := ⟨#[80, 51, 48, 68]⟩
abbrev kA : Mo := ⟨1, 2000, 3, 1, 0, 0, false, 0⟩
abbrev kB : Mo := ⟨1, 2000, 3, 1, 0, 0, true, 0⟩
abbrev kP : Sp := ⟨1, 0, 0⟩
abbrev kQ : Sp := ⟨0, 2592000, 0⟩
theorem f1 : prM 1 (bl t1) = some kA := by decide +kernel
theorem f2 : prM 1 (bl t2) = some kB := by decide +kernel
theorem f3 : prM 2 (bl t3) = none := by decide +kernel
theorem f4 : prP (bl t4) = some kP := by decide +kernel
theorem f5 : prP (bl t5) = some kQ := by decide +kernel
theorem f6 : cmpM kA kB = 2 := by decide +kernel
theorem f7 : cmpP kP kQ = 2 := by decide +kernel
theorem f8 : daysS 2001 1 1 = 366 := by decide +kernel
theorem f9 : lpL (lnY (-1)) = true := by decide +kernel
end Go.Proofs.YtgaegajcejpmdaaGreatDoor.Dt
