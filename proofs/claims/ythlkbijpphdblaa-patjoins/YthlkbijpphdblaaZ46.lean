/- Joined: D9, E0, E1, E2. -/
import Derived.Test.YthlkbijpphdblaaZ45
import Derived.Test.YthlkbijpphdblaaN4
import Derived.Laws.EntriesVeiled
namespace Go.Proofs.Ythlkbijpphdblaa
open Go.RowKit
set_option linter.unusedVariables false

set_option maxHeartbeats 2000000 in
theorem positions_p {O : Nat → Prop} {w : World} {n : Nd} {q0 : Int} {s0 : Option Addr} {s1 s2 : Nat} {q2 q3 : Int} {t0 : Option Addr} {t1 t2 : Nat} (h : NdV O w n [.int .i64 q0, .slice s0 s1 s2, .int .i64 q2, .int .i64 q3, .slice t0 t1 t2]) (hs : Sml n) (hwt : wtF n ≤ 1000000) (most : Int) (h0 : 0 ≤ most) (h1 : most ≤ 1048576) : Calls Try.prog 15 #[.agg #[.int .i64 q0, .slice s0 s1 s2, .int .i64 q2, .int .i64 q3, .slice t0 t1 t2], .int .i64 most] w fun e w' => e = .returned (.int .i64 (fdF (poW most) n)) ∧ Below w.heap.size w w' := by
  have hmf : ∀ (fn : Fn) (first cap : Array Value) (w : World), (Instr.makeFunc fn first cap).run Try.prog w = .ok (.func fn first cap) w := fun _ _ _ _ => rfl
  have xR := nw_heap w (.cells #[.int .i64 q0, .slice s0 s1 s2, .int .i64 q2, .int .i64 q3, .slice t0 t1 t2] 27)
  have bR : Below w.heap.size w (w.alloc (.cells #[.int .i64 q0, .slice s0 s1 s2, .int .i64 q2, .int .i64 q3, .slice t0 t1 t2] 27)) := (Below.refl _ _).alloc (Nat.le_refl _) _
  have zR := sza w (.cells #[.int .i64 q0, .slice s0 s1 s2, .int .i64 q2, .int .i64 q3, .slice t0 t1 t2] 27)
  have hT := tra_box (h.fro (fun _ q => q) bR.size (fun g _ hgs => bR.block g hgs)) xR
  obtain ⟨yM, yC, bC⟩ := box2' (w.alloc (.cells #[.int .i64 q0, .slice s0 s1 s2, .int .i64 q2, .int .i64 q3, .slice t0 t1 t2] 27)) (.cells #[.int .i64 most] 3) (.cells #[.func (.func 30) #[] #[.pointer (some ⟨w.heap.size + 1, 0, none⟩)]] 69)
  rw [zR] at yM yC
  have hT3 := hT.below bC
  obtain ⟨W3, hW3⟩ : ∃ W3, ((w.alloc (.cells #[.int .i64 q0, .slice s0 s1 s2, .int .i64 q2, .int .i64 q3, .slice t0 t1 t2] 27)).alloc (.cells #[.int .i64 most] 3)).alloc (.cells #[.func (.func 30) #[] #[.pointer (some ⟨w.heap.size + 1, 0, none⟩)]] 69) = W3 := ⟨_, rfl⟩
  rw [hW3] at yM yC bC hT3
  have hb3 : Below w.heap.size w W3 := bR.trans (bC.mono bR.size)
  have hq := fold_po (root := (w.heap.size, 0)) hT3 hs hwt (wk := poW most) (c := ⟨w.heap.size + 1 + 1, 0, none⟩) (fun W g off n v l hb ht hi hl hw hln => posc_p (M := w.heap.size + 1) ht v l hi h0 h1 (dr_cell (lt_of yM) (by simp [World.cell?, yM]) hb) (dr_cell (lt_of yC) (by simp [World.cell?, yC]) hb) (fun x hx => by
    subst hl
    rw [List.mem_map] at hx
    obtain ⟨y, hy, rfl⟩ := hx
    exact po_bd h0 y) hln) (fun n => (po_bd h0 n).1)
  have HQ : Hid _ := And.intro hq (And.intro hb3 hW3)
  clear hq bR hT hT3 xR yM yC bC h hb3 zR hW3
  have d1 : ¬ most < 0 := by omega
  have d2 : ¬ 1048576 < most := by omega
  go_enter Try.func15, Try.ntmps15
  go_upto_region 4 with fail
  rw [HQ.out.2.2]
  go_wp2_with fail
  refine Calls.mono HQ.out.1 ?_
  rintro e w1 ⟨rfl, hb1⟩
  have H1 : Hid _ := HQ.out.2.1.trans (hb1.mono HQ.out.2.1.size)
  clear hb1
  go_wp2_with fail
  go_ret
  exact ⟨rfl, H1.out⟩
end Go.Proofs.Ythlkbijpphdblaa
namespace Go.Proofs.Ythlkbijpphdblaa
open Go.RowKit
set_option linter.unusedVariables false

def KN : Nd := .nd 4 [] 0 0 [.nd 5 [] 2 3 [.nd 2 [(97, 97)] 0 0 []], .nd 2 [(0, 97), (101, 1114111)] 0 0 []]
theorem kn_par : parS (bl ⟨#[97, 123, 50, 44, 51, 125, 124, 91, 94, 98, 45, 100, 93]⟩) = .ok KN 13 := by rfl
theorem kn_bad : parS (bl ⟨#[97, 41]⟩) = .bad 1 2 := by rfl
theorem kn_po : fdF (poW 100) KN = 4 := by rfl
theorem kn_dp : fdF dpW KN = 3 := by rfl
theorem kn_wt : wtF KN = 8 := by rfl
theorem kn_cn : Cn [((0 : Int), (97 : Int)), (101, 1114111)] := by
  refine ⟨by simp, fun r hr => ?_⟩
  simp only [List.mem_cons, List.not_mem_nil, or_false] at hr
  rcases hr with rfl | rfl <;> simp [MX]
theorem kn_sm : Sml KN := by
  have h0 : ∀ k s a b, Sml (.nd k s a b []) := fun k s a b => ⟨by simp [Nd.kids], fun x hx => by simp [Nd.kids] at hx⟩
  refine ⟨by simp [KN, Nd.kids], fun x hx => ?_⟩
  simp only [KN, Nd.kids, List.mem_cons, List.not_mem_nil, or_false] at hx
  rcases hx with rfl | rfl
  · refine ⟨by simp [Nd.kids], fun y hy => ?_⟩
    simp only [Nd.kids, List.mem_cons, List.not_mem_nil, or_false] at hy
    subst hy
    exact h0 _ _ _ _
  · exact h0 _ _ _ _
theorem kn_a : memB [((0 : Int), (97 : Int)), (101, 1114111)] 97 = true := by rfl
theorem kn_c : memB [((0 : Int), (97 : Int)), (101, 1114111)] 99 = false := by rfl
theorem kn_cells {O : Nat → Prop} {w : World} {q0 : Int} {s0 : Option Addr} {s1 s2 : Nat} {q2 q3 : Int} {t0 : Option Addr} {t1 t2 : Nat} (h : NdV O w KN [.int .i64 q0, .slice s0 s1 s2, .int .i64 q2, .int .i64 q3, .slice t0 t1 t2]) :
    ∃ g off a1 c1, q0 = 4 ∧ t0 = some ⟨g, off, none⟩ ∧ t1 = 2 ∧ 2 ≤ t2 ∧ O g ∧ g < w.heap.size ∧ w.cell? ⟨g, off + 3, none⟩ = some (.int .i64 3) ∧ w.cell? ⟨g, off + 6, none⟩ = some (.slice a1 2 c1) ∧ SlO O w (.slice a1 2 c1) [(0, 97), (101, 1114111)] := by
  unfold KN at h
  cases h with
  | mk k a b s ks vs ad cap css hs hl hc hk hn =>
  rcases hk with hk | ⟨g, off, rfl, hO, hg, ⟨arr, harr⟩, hk⟩
  · simp at hk
  have h0 := hn 0 (by simp)
  have h1 := hn 1 (by simp)
  simp only [List.getElem_cons_zero, List.getElem_cons_succ] at h0 h1
  obtain ⟨c0, e0⟩ : ∃ c0, css.getD 0 [] = c0 := ⟨_, rfl⟩
  obtain ⟨c1, e1⟩ : ∃ c1, css.getD 1 [] = c1 := ⟨_, rfl⟩
  have k0 := hk 0
  have k1 := hk 1
  rw [e0] at h0 k0
  rw [e1] at h1 k1
  cases h0 with
  | mk _ _ _ _ _ vs0 ad0 cap0 css0 hs0 hl0 hc0 hk0 hn0 =>
  cases h1 with
  | mk _ _ _ _ _ vs1 ad1 cap1 css1 hs1 hl1 hc1 hk1 hn1 =>
  have z3 := k0 3 _ rfl
  have z6 := k1 1 _ rfl
  obtain ⟨a1, cp1, rfl, hcp, hsl⟩ := id hs1
  refine ⟨g, off, a1, cp1, rfl, rfl, rfl, by simpa using hc, hO, hg, ?_, ?_, hs1⟩
  · simpa using z3
  · simpa [Nat.add_assoc] using z6
end Go.Proofs.Ythlkbijpphdblaa
namespace Go.Proofs.Ythlkbijpphdblaa
open Go.RowKit
set_option linter.unusedVariables false

set_option maxRecDepth 4000 in
set_option maxHeartbeats 4000000 in
theorem known_p (w : World) : Calls Try.prog 5 #[] w fun e w' => e = .returned (.bool true) ∧ Below w.heap.size w w' := by
  go_enter Try.func5, Try.ntmps5
  go_wp2_with fail
  refine Calls.mono (parse_p _ w) ?_
  intro e w1 hq
  rw [kn_par] at hq
  obtain ⟨q0, s0, s1, s2, q2, q3, t0, t1, t2, rfl, hn, hb1⟩ := hq
  obtain ⟨g, off, a1, c1, rfl, rfl, rfl, hc2, hO, hg, hm, hs, hsl⟩ := kn_cells hn
  obtain ⟨O, hOe⟩ : ∃ O, Nw w w1 = O := ⟨_, rfl⟩
  rw [hOe] at hn hO hsl
  have xR := nw_heap w1 (.cells #[.int .i64 4, .slice s0 s1 s2, .int .i64 q2, .int .i64 q3, .slice (some ⟨g, off, none⟩) 2 t2] 27)
  have bR : Below w1.heap.size w1 (w1.alloc (.cells #[.int .i64 4, .slice s0 s1 s2, .int .i64 q2, .int .i64 q3, .slice (some ⟨g, off, none⟩) 2 t2] 27)) := (Below.refl _ _).alloc (Nat.le_refl _) _
  have H1 : Hid _ := And.intro hn (And.intro hb1 (And.intro hg (And.intro hm (And.intro hs (And.intro hsl (And.intro xR bR))))))
  clear hn hb1 hg hm hs hsl xR bR hO hOe
  go_wp2_with fail
  refine Calls.mono (parse_p _ _) ?_
  intro e w2 hq
  rw [kn_bad] at hq
  obtain ⟨rfl, hb2⟩ := hq
  have H2 : Hid _ := hb2
  clear hb2
  go_upto_region 3 with fail
  obtain ⟨hn, hb1, hg, hm, hs, hsl, xR, bR⟩ := H1.out
  obtain ⟨W, hW⟩ : ∃ W, w2.alloc (.cells zN 27) = W := ⟨_, rfl⟩
  have bW : Below w2.heap.size w2 W := by rw [← hW]; exact (Below.refl _ _).alloc (Nat.le_refl _) _
  have b1W := H2.out.trans (bW.mono H2.out.size)
  have zR := sza w1 (.cells #[.int .i64 4, .slice s0 s1 s2, .int .i64 q2, .int .i64 q3, .slice (some ⟨g, off, none⟩) 2 t2] 27)
  have b2W := bR.trans (b1W.mono bR.size)
  have xW := (b1W.block w1.heap.size (by rw [zR]; omega)).trans xR
  have hnW := hn.fro (fun _ q => q) b2W.size (fun g _ hgs => b2W.block g hgs)
  have hslW := (hsl.fro (fun _ q => q) b2W.size (fun g _ hgs => b2W.block g hgs)).sl
  have hmW := cell_of (b2W.block g hg) hm
  have hsW := cell_of (b2W.block g hg) hs
  have b0W := hb1.trans (b2W.mono hb1.size)
  have hgW := Nat.lt_of_lt_of_le hg b2W.size
  rw [hW]
  clear H1 H2 hn hb1 hg hm hs hsl xR bR bW b1W zR b2W hW
  obtain ⟨X, hX⟩ : ∃ X, w1.heap.size = X := ⟨_, rfl⟩
  rw [hX] at xW ⊢
  clear hX
  obtain ⟨⟨k0, k1, k2, k3, k4⟩, _⟩ := cells5 xW
  have HX : Hid _ := And.intro hnW (And.intro hslW (And.intro b0W (And.intro xW hgW)))
  clear hnW hslW b0W xW hgW
  go_wp2_with fail
  refine Calls.mono (has_p _ _ 97 _ HX.out.2.1 kn_cn (by simp)) ?_
  rintro e w3 ⟨rfl, hb3⟩
  rw [kn_a]
  have hs3 := cell_of (hb3.block g HX.out.2.2.2.2) hsW
  have x3 := (hb3.block X (lt_of HX.out.2.2.2.1)).trans HX.out.2.2.2.1
  obtain ⟨⟨l0, l1, l2, l3, l4⟩, _⟩ := cells5 x3
  have H3 : Hid _ := And.intro hb3 x3
  clear hb3 x3 k0 k1 k2 k3 k4 hsW hmW
  go_wp2_with fail
  refine Calls.mono (has_p _ _ 99 _ (HX.out.2.1.below H3.out.1) kn_cn (by simp)) ?_
  rintro e w4 ⟨rfl, hb4⟩
  rw [kn_c]
  have x4 := (hb4.block X (lt_of H3.out.2)).trans H3.out.2
  have b4 := H3.out.1.trans (hb4.mono H3.out.1.size)
  obtain ⟨⟨k0, k1, k2, k3, k4⟩, _⟩ := cells5 x4
  have H4 : Hid _ := And.intro b4 x4
  clear hb4 x4 b4 l0 l1 l2 l3 l4 hs3
  go_wp2_with fail
  have hn4 := HX.out.1.fro (fun _ q => q) H4.out.1.size (fun g _ hgs => H4.out.1.block g hgs)
  refine Calls.mono (positions_p hn4 kn_sm (by rw [kn_wt]; omega) 100 (by omega) (by omega)) ?_
  rintro e w5 ⟨rfl, hb5⟩
  rw [kn_po]
  have x5 := (hb5.block X (lt_of H4.out.2)).trans H4.out.2
  have b5 := H4.out.1.trans (hb5.mono H4.out.1.size)
  obtain ⟨⟨l0, l1, l2, l3, l4⟩, _⟩ := cells5 x5
  have H5 : Hid _ := And.intro b5 x5
  clear hb5 x5 b5 k0 k1 k2 k3 k4 hn4
  go_wp2_with fail
  have hn5 := HX.out.1.fro (fun _ q => q) H5.out.1.size (fun g _ hgs => H5.out.1.block g hgs)
  refine Calls.mono (deep_p hn5 kn_sm (by rw [kn_wt]; omega)) ?_
  rintro e w6 ⟨rfl, hb6⟩
  rw [kn_dp]
  have H6 : Hid _ := HX.out.2.2.1.trans ((H5.out.1.trans (hb6.mono H5.out.1.size)).mono HX.out.2.2.1.size)
  clear hb6 hn5 l0 l1 l2 l3 l4
  go_wp2_with fail
  go_ret
  exact ⟨rfl, H6.out⟩
end Go.Proofs.Ythlkbijpphdblaa
namespace Go.Proofs.Ythlkbijpphdblaa
open Go.RowKit
set_option linter.unusedVariables false

theorem bl_sb (l : List Int) (h : ∀ i, 0 ≤ l.getD i 0 ∧ l.getD i 0 < 256) : bl (sb l) = l := by
  unfold bl sb ubs
  rw [List.map_map]
  refine List.ext_getElem (by simp) fun i h1 h2 => ?_
  have := h i
  rw [List.getD_eq_getElem?_getD, List.getElem?_eq_getElem h2] at this
  simp at this ⊢
  omega
theorem sb_bl (s : ByteArray) : sb (bl s) = s := by
  unfold bl sb ubs
  rw [List.map_map]
  have : (fun n : Int => UInt8.ofNat n.toNat) ∘ (fun c : UInt8 => (c.toNat : Int)) = id := by
    funext c; simp
  rw [this, List.map_id]
theorem bl_app (s t : ByteArray) : bl (s ++ t) = bl s ++ bl t := by
  unfold bl
  rw [ByteArray.data_append]
  simp
theorem conv_one (x : Int) (w : World) : (convert 42 9 (.slice (some ⟨w.heap.size, 0, none⟩) 1 1)).run Try.prog (w.alloc (.cells #[.int .u8 x] 5)) = .ok (.string (sb [x])) (w.alloc (.cells #[.int .u8 x] 5)) :=
  conv_string w.heap.size 0 1 [x] (w.alloc (.cells #[.int .u8 x] 5)) (fun i hi => by
    have : i = 0 := by simpa using hi
    subst this
    have h := nw_heap w (.cells #[.int .u8 x] 5)
    simp only [World.cell?, h]
    rfl)
theorem sb_one_size (x : Int) : (sb [x]).size = 1 := rfl
theorem bl_one {x : Int} (h0 : 0 ≤ x) (h1 : x < 256) : bl (sb [x]) = [x] := bl_sb [x] (fun i => by
  cases i with
  | zero => exact ⟨h0, h1⟩
  | succ i => simp)
def sgL : List Int := [46, 92, 63, 42, 43, 40, 41, 124, 91, 93, 123, 125, 45, 94]
def nrt (c : Int) : Bool := decide (c = 110) || decide (c = 114) || decide (c = 116)
/-- What the law asks of an escape of one byte. -/
def okE (c : Int) : Bool := match parS [92, c] with
  | .ok (.nd k s a b ks) _ => rtB 0 s && decide (s.length ≤ 1000) && (if sgL.contains c then decide (k = 2) && decide (sz s = 1) && memB s c else if (escS c).2 then decide (s = (escS c).1) else nrt c && decide (sz s = 1))
  | .bad p e => decide (e ≠ 0) && decide (0 ≤ e ∧ e ≤ 9) && decide (0 ≤ p ∧ p ≤ 2) && !(sgL.contains c) && !(escS c).2 && !(nrt c)
theorem okE_all : ((List.range 256).all fun (c : Nat) => okE (Int.ofNat c)) = true := by decide +kernel
theorem okE_p (c : Int) (h0 : 0 ≤ c) (h1 : c < 256) : okE c = true := by
  have h := List.all_eq_true.1 okE_all c.toNat (by rw [List.mem_range]; omega)
  have e : Int.ofNat c.toNat = c := by simp; omega
  rwa [e] at h
def okP (a b : Int) : Bool := match parS [91, 97, 45, 122, 45, 91, a, 45, b, 93, 93], parS [91, 94, a, 45, b, 93] with
  | .ok (.nd _ s _ _ _) _, .ok (.nd _ t _ _ _) _ => rtB 0 s && rtB 0 t && decide (s.length ≤ 1000) && decide (t.length ≤ 1000) && decide (sz s = 26 - (b - a) - 1) && !memB s a && !memB t b && decide (sz t = 1114112 - (b - a) - 1)
  | _, _ => false
theorem okP_all : ((List.range 26).all fun (a : Nat) => (List.range 26).all fun (b : Nat) => !decide (a ≤ b) || okP (97 + Int.ofNat a) (97 + Int.ofNat b)) = true := by decide +kernel
theorem okP_p (a b : Int) (h0 : 97 ≤ a) (h1 : a ≤ b) (h2 : b ≤ 122) : okP a b = true := by
  have h := List.all_eq_true.1 (List.all_eq_true.1 okP_all (a - 97).toNat (by rw [List.mem_range]; omega)) (b - 97).toNat (by rw [List.mem_range]; omega)
  have e : 97 + Int.ofNat (a - 97).toNat = a := by simp; omega
  have e' : 97 + Int.ofNat (b - 97).toNat = b := by simp; omega
  rw [e, e'] at h
  have d : decide ((a - 97).toNat ≤ (b - 97).toNat) = true := by simp; omega
  rw [d] at h
  simpa using h
theorem nd_open {O : Nat → Prop} {w : World} {k a b : Int} {s : List Rg} {ks : List Nd} {q0 : Int} {s0 : Option Addr} {s1 s2 : Nat} {q2 q3 : Int} {t0 : Option Addr} {t1 t2 : Nat} (h : NdV O w (.nd k s a b ks) [.int .i64 q0, .slice s0 s1 s2, .int .i64 q2, .int .i64 q3, .slice t0 t1 t2]) : q0 = k ∧ Sl .i32 w (.slice s0 s1 s2) s := by
  cases h with
  | mk _ _ _ _ _ vs ad cap css hs hl hc hk hn => exact ⟨rfl, hs.sl⟩
end Go.Proofs.Ythlkbijpphdblaa
