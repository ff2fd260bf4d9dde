/- Joined: K3, K4. -/
import Derived.Test.YthlkbijpphdblaaK1
import Derived.Deep.RegionHeldLaw
namespace Go.Proofs.Ythlkbijpphdblaa
open Go.RowKit
set_option linter.unusedVariables false

theorem RdV.bl2 {O : Nat → Prop} {w w' : World} {n : Nd} {cs : List Value} (h : RdV O w n cs) (hb : Below w.heap.size w w') : RdV O w' n cs := h.fro (fun _ hg => hg) hb.size (fun g _ hgs => hb.block g hgs)
theorem same_t (va vb : Value) (a : List Rg) (w : World) (ha : Sl .i64 w va a) (hb : Sl .i64 w vb a) (hn : a.length ≤ 1000000) : Calls Try.prog 18 #[sV va, sV vb] w fun e w' => e = .returned (.bool true) ∧ Below w.heap.size w w' := by
  have := same_r va vb a a w ha hb hn hn
  rwa [decide_eq_true rfl] at this
set_option maxRecDepth 4000 in
set_option maxHeartbeats 8000000 in
theorem same_n {n : Nd} (hg : GdN n) : ∀ {O O' : Nat → Prop} {w : World} {cs ds : List Value}, RdV O w n cs → RdV O' w n ds → Calls Try.prog 8 #[.agg cs.toArray, .agg ds.toArray] w fun e w' => e = .returned (.bool true) ∧ Below w.heap.size w w' := by
  induction hg with
  | mk k s a b ks h1 h2 h3 hk ih =>
    intro O O' w cs ds h h'
    cases h with
    | mk _ _ _ _ _ vs ad cap css hs hl hc hkk hn =>
    cases h' with
    | mk _ _ _ _ _ vs' ad' cap' css' hs' hl' hc' hkk' hn' =>
      have hs0 := hs.sl
      obtain ⟨sa, sc, rfl, _⟩ := hs
      have hs0' := hs'.sl
      obtain ⟨sa', sc', rfl, _⟩ := hs'
      obtain ⟨x1, x2, hbW⟩ := box2' w (.cells #[.int .i64 k, .slice sa s.length sc, .int .i64 a, .int .i64 b, .slice ad ks.length cap] 38) (.cells #[.int .i64 k, .slice sa' s.length sc', .int .i64 a, .int .i64 b, .slice ad' ks.length cap'] 38)
      obtain ⟨⟨c0, c1, c2, c3, c4⟩, _⟩ := cells5 x1
      obtain ⟨⟨d0, d1, d2, d3, d4⟩, _⟩ := cells5 x2
      have e1 : (k != k) = false := by simp
      have e2 : (a != a) = false := by simp
      have e3 : (b != b) = false := by simp
      have q1 := same_t _ _ s _ (hs0.below hbW) (hs0'.below hbW) (by omega)
      have HX : Hid _ := And.intro q1 (And.intro hkk (And.intro hkk' (And.intro hn (And.intro hn' (And.intro ih (And.intro hbW (And.intro x1 x2)))))))
      clear q1 hkk hkk' hn hn' ih hbW x1 x2 hs0 hs0' hk h1
      go_enter Try.func8, Try.ntmps8
      go_wp2_with fail
      refine Calls.mono HX.out.1 ?_
      rintro e w1 ⟨rfl, hb1⟩
      have y1 := (hb1.block _ (lt_of HX.out.2.2.2.2.2.2.2.1)).trans HX.out.2.2.2.2.2.2.2.1
      have y2 := (hb1.block _ (lt_of HX.out.2.2.2.2.2.2.2.2)).trans HX.out.2.2.2.2.2.2.2.2
      have hbb := HX.out.2.2.2.2.2.2.1.trans (hb1.mono HX.out.2.2.2.2.2.2.1.size)
      clear c0 c1 c2 c3 c4 d0 d1 d2 d3 d4
      obtain ⟨⟨_, _, _, _, c4⟩, _⟩ := cells5 y1
      obtain ⟨⟨_, _, _, _, d4⟩, _⟩ := cells5 y2
      have e4 : ((ks.length : Int) != (ks.length : Int)) = false := by simp
      have H1 : Hid (Below w.heap.size w w1 ∧ w1.heap[w.heap.size]? = _ ∧ w1.heap[w.heap.size + 1]? = _) := ⟨hbb, y1, y2⟩
      clear hbb y1 y2 hb1
      go_wp2_with fail
      clear c4 d4
      go_loopg [5] ks.length (fun g v5 wr => ∃ j : Nat, j + g = ks.length ∧ v5 = .int .i64 (j : Int) ∧ Below w1.heap.size w1 wr)
      case atStart => exact ⟨0, by omega, rfl, Below.refl _ _⟩
      case round =>
        obtain ⟨j, hjg, rfl, hb⟩ := hrel
        have hbw : Below w.heap.size w wr := H1.out.1.trans (hb.mono H1.out.1.size)
        have y1 := (hb.block _ (lt_of H1.out.2.1)).trans H1.out.2.1
        have y2 := (hb.block _ (lt_of H1.out.2.2)).trans H1.out.2.2
        obtain ⟨⟨_, _, _, _, c4⟩, _⟩ := cells5 y1
        obtain ⟨⟨_, _, _, _, d4⟩, _⟩ := cells5 y2
        by_cases hlt : j < ks.length
        · obtain ⟨g, rfl⟩ : ∃ g, gk = g + 1 := ⟨gk - 1, by omega⟩
          have hne : ks ≠ [] := by rintro rfl; simp at hlt
          obtain ⟨gb, off, had, _, hgs, hcell⟩ := HX.out.2.1.resolve_left hne
          obtain ⟨gb', off', had', _, hgs', hcell'⟩ := HX.out.2.2.1.resolve_left hne
          have hkid := HX.out.2.2.2.1 j hlt
          have hkid' := HX.out.2.2.2.2.1 j hlt
          obtain ⟨q0, s0, s1, s2, q2, q3, t0, t1, t2, hform⟩ := rd_form hkid
          obtain ⟨p0, u0, u1, u2, p2, p3, x0, x1, x2, hform'⟩ := rd_form hkid'
          rw [hform] at hkid
          rw [hform'] at hkid'
          have hI : ∀ W', Below wr.heap.size wr W' → Calls Try.prog 8 #[.agg #[.int .i64 q0, .slice s0 s1 s2, .int .i64 q2, .int .i64 q3, .slice t0 t1 t2], .agg #[.int .i64 p0, .slice u0 u1 u2, .int .i64 p2, .int .i64 p3, .slice x0 x1 x2]] W' fun e w' => e = .returned (.bool true) ∧ Below W'.heap.size W' w' := fun W' hW' => HX.out.2.2.2.2.2.1 _ (List.getElem_mem hlt) ((hkid.bl2 hbw).bl2 hW') ((hkid'.bl2 hbw).bl2 hW')
          have r0 : w.cell? ⟨gb, off + j * 5, none⟩ = some (.int .i64 q0) := hcell j 0 _ (by rw [hform]; rfl)
          have r1 : w.cell? ⟨gb, off + j * 5 + 1, none⟩ = some (.slice s0 s1 s2) := hcell j 1 _ (by rw [hform]; rfl)
          have r2 : w.cell? ⟨gb, off + j * 5 + 2, none⟩ = some (.int .i64 q2) := hcell j 2 _ (by rw [hform]; rfl)
          have r3 : w.cell? ⟨gb, off + j * 5 + 3, none⟩ = some (.int .i64 q3) := hcell j 3 _ (by rw [hform]; rfl)
          have r4 : w.cell? ⟨gb, off + j * 5 + 4, none⟩ = some (.slice t0 t1 t2) := hcell j 4 _ (by rw [hform]; rfl)
          have l0 : w.cell? ⟨gb', off' + j * 5, none⟩ = some (.int .i64 p0) := hcell' j 0 _ (by rw [hform']; rfl)
          have l1 : w.cell? ⟨gb', off' + j * 5 + 1, none⟩ = some (.slice u0 u1 u2) := hcell' j 1 _ (by rw [hform']; rfl)
          have l2 : w.cell? ⟨gb', off' + j * 5 + 2, none⟩ = some (.int .i64 p2) := hcell' j 2 _ (by rw [hform']; rfl)
          have l3 : w.cell? ⟨gb', off' + j * 5 + 3, none⟩ = some (.int .i64 p3) := hcell' j 3 _ (by rw [hform']; rfl)
          have l4 : w.cell? ⟨gb', off' + j * 5 + 4, none⟩ = some (.slice x0 x1 x2) := hcell' j 4 _ (by rw [hform']; rfl)
          subst had had'
          have hk : ∀ X, Below wr.heap.size wr X → ∀ b i u, b < w.heap.size → w.cell? ⟨b, i, none⟩ = some u → X.cell? ⟨b, i, none⟩ = some u := fun X hX b i u hbl hu => (hX.cell (p := ⟨b, i, none⟩) (by have := hbw.size; show b < _; omega)).trans ((hbw.cell (p := ⟨b, i, none⟩) hbl).trans hu)
          have fS : ∀ X, Below wr.heap.size wr X → X.cell? ⟨w.heap.size, 4, none⟩ = some (.slice (some ⟨gb, off, none⟩) ks.length cap) ∧ X.cell? ⟨w.heap.size + 1, 4, none⟩ = some (.slice (some ⟨gb', off', none⟩) ks.length cap') ∧ X.cell? ⟨gb, off + j * 5, none⟩ = some (.int .i64 q0) ∧ X.cell? ⟨gb, off + j * 5 + 1, none⟩ = some (.slice s0 s1 s2) ∧ X.cell? ⟨gb, off + j * 5 + 2, none⟩ = some (.int .i64 q2) ∧ X.cell? ⟨gb, off + j * 5 + 3, none⟩ = some (.int .i64 q3) ∧ X.cell? ⟨gb, off + j * 5 + 4, none⟩ = some (.slice t0 t1 t2) ∧ X.cell? ⟨gb', off' + j * 5, none⟩ = some (.int .i64 p0) ∧ X.cell? ⟨gb', off' + j * 5 + 1, none⟩ = some (.slice u0 u1 u2) ∧ X.cell? ⟨gb', off' + j * 5 + 2, none⟩ = some (.int .i64 p2) ∧ X.cell? ⟨gb', off' + j * 5 + 3, none⟩ = some (.int .i64 p3) ∧ X.cell? ⟨gb', off' + j * 5 + 4, none⟩ = some (.slice x0 x1 x2) := fun X hX =>
            ⟨(hX.cell (p := ⟨w.heap.size, 4, none⟩) (lt_of y1)).trans c4, (hX.cell (p := ⟨w.heap.size + 1, 4, none⟩) (lt_of y2)).trans d4, hk X hX _ _ _ hgs r0, hk X hX _ _ _ hgs r1, hk X hX _ _ _ hgs r2, hk X hX _ _ _ hgs r3, hk X hX _ _ _ hgs r4, hk X hX _ _ _ hgs' l0, hk X hX _ _ _ hgs' l1, hk X hX _ _ _ hgs' l2, hk X hX _ _ _ hgs' l3, hk X hX _ _ _ hgs' l4⟩
          have HFS : Hid _ := fS
          have i0 : (0 : Int) ≤ (j : Int) := by omega
          have i1 : (j : Int) < (ks.length : Int) := by omega
          have hdr : Below wr.heap.size wr wr.drew := bdrewN (Below.refl _ _) 1
          have HC : Hid (Below wr.heap.size wr wr.drew) := hdr
          have HI : Hid _ := hI
          have HR : Hid (Below w1.heap.size w1 wr) := hb
          clear fS hI hkid hkid' hform hform' hcell hcell' r0 r1 r2 r3 r4 l0 l1 l2 l3 l4 hdr hne hgs hgs' hk hb hbw y1 y2 d4
          go_upto_region 6 with fail
          go_region_held_law (fun X => X.cell? ⟨w.heap.size, 4, none⟩ = some (.slice (some ⟨gb, off, none⟩) ks.length cap) ∧ X.cell? ⟨w.heap.size + 1, 4, none⟩ = some (.slice (some ⟨gb', off', none⟩) ks.length cap') ∧ X.cell? ⟨gb, off + j * 5, none⟩ = some (.int .i64 q0) ∧ X.cell? ⟨gb, off + j * 5 + 1, none⟩ = some (.slice s0 s1 s2) ∧ X.cell? ⟨gb, off + j * 5 + 2, none⟩ = some (.int .i64 q2) ∧ X.cell? ⟨gb, off + j * 5 + 3, none⟩ = some (.int .i64 q3) ∧ X.cell? ⟨gb, off + j * 5 + 4, none⟩ = some (.slice t0 t1 t2) ∧ X.cell? ⟨gb', off' + j * 5, none⟩ = some (.int .i64 p0) ∧ X.cell? ⟨gb', off' + j * 5 + 1, none⟩ = some (.slice u0 u1 u2) ∧ X.cell? ⟨gb', off' + j * 5 + 2, none⟩ = some (.int .i64 p2) ∧ X.cell? ⟨gb', off' + j * 5 + 3, none⟩ = some (.int .i64 p3) ∧ X.cell? ⟨gb', off' + j * 5 + 4, none⟩ = some (.slice x0 x1 x2)) (first | with_reducible exact HFS.out _ HC.out | fail)
            (first
              | (go_at_call 8; have hq := HI.out _ HC.out; (with_reducible refine Calls.mono hq ?_); clear hq; rintro e w6 ⟨rfl, hb6⟩; have hc6 := HC.out.trans (hb6.mono HC.out.size); clear HC; have HC : Hid (Below wr.heap.size wr w6) := hc6; clear hb6 hc6)
              | fail)
          go_wp2_with fail
          go_roundg g
          case measure => omega
          case rel => exact ⟨j + 1, by omega, by simp, HR.out.trans (HC.out.mono HR.out.size)⟩
        · have hjl : j = ks.length := by omega
          subst hjl
          have HR : Hid (Below w.heap.size w wr) := hbw
          clear y1 y2 d4 hb hbw
          go_wp2_with fail
          go_ret
          exact ⟨rfl, HR.out⟩
end Go.Proofs.Ythlkbijpphdblaa
namespace Go.Proofs.Ythlkbijpphdblaa
open Go.RowKit
set_option linter.unusedVariables false

def nbF : Nat → Int → List Int
  | 0, n => [48 + n % 10]
  | f + 1, n => if n < 10 then [48 + n % 10] else nbF f (n / 10) ++ [48 + n % 10]
set_option maxHeartbeats 800000 in
theorem decimal_l (n : Int) (w : World) (h0 : 0 ≤ n) (h1 : n ≤ 999999999) : Calls Try.prog 7 #[.int .i64 n] w fun e w' => ∃ s : ByteArray, e = .returned (.string s) ∧ (bl s = nbF 8 n ∧ s.size ≤ 9 ∧ Below w.heap.size w w') := by
  have hcv0 := fun x : Int => conv_one x w
  have hm0 : 0 ≤ n % 10 ∧ n % 10 < 10 := by omega
  obtain ⟨hm1, hm2⟩ := hm0
  go_enter Try.func7, Try.ntmps7
  go_wp2_with fail
  clear hcv0
  go_loopg [0, 3] 8 (fun g v0 v3 wr => ∃ (m : Int) (s : ByteArray) (tl : List Int), v0 = .int .i64 m ∧ v3 = .string s ∧ 0 ≤ m ∧ m ≤ 999999999 ∧ m < 10 ^ (g + 1) ∧ nbF 8 n = nbF g m ++ tl ∧ bl s = (48 + m % 10) :: tl ∧ s.size + g = 9 ∧ Below w.heap.size w wr)
  case atStart =>
    refine ⟨n, sb [48 + n % 10], [], rfl, rfl, h0, h1, ?_, by simp, by rw [bl_one (by omega) (by omega)], rfl, (Below.refl _ _).alloc (Nat.le_refl _) _⟩
    have : (10 : Int) ^ (8 + 1) = 1000000000 := by decide
    rw [this]; omega
  case round =>
    obtain ⟨m, s, tl, rfl, rfl, m0, m9, mp, hnb, hbs, hsz, hbel⟩ := hrel
    by_cases hlt : 10 ≤ m
    · have hg : gk ≠ 0 := by
        rintro rfl
        simp at mp
        omega
      obtain ⟨g, rfl⟩ : ∃ g, gk = g + 1 := ⟨gk - 1, by omega⟩
      have hdv : 0 ≤ m / 10 ∧ m / 10 ≤ 999999999 := by omega
      have hmp : m / 10 < 10 ^ (g + 1) := by
        rw [Int.pow_succ] at mp
        omega
      have hmd : 0 ≤ m / 10 % 10 ∧ m / 10 % 10 < 10 := by omega
      have hnx : nbF 8 n = nbF g (m / 10) ++ ((48 + m % 10) :: tl) := by
        rw [hnb, nbF, if_neg (by omega), List.append_assoc]
        rfl
      have HX : Hid _ := And.intro hnx (And.intro hbs (And.intro hbel (And.intro hmp hsz)))
      have hcv := fun x : Int => conv_one x wr
      have hsb : (sb [48 + m / 10 % 10]).size = 1 := rfl
      have hs9 : s.size ≤ 9 := by omega
      have hsum : ¬ (9223372036854775807 < (sb [48 + m / 10 % 10]).size + s.size) := by rw [hsb]; omega
      obtain ⟨hd0, hd1⟩ := hdv
      obtain ⟨hmd0, hmd1⟩ := hmd
      clear hnx hnb hbs hbel hmp hsz mp
      go_wp2_with fail
      go_roundg g
      case measure => omega
      case rel =>
        refine ⟨m / 10, sb [48 + m / 10 % 10] ++ s, (48 + m % 10) :: tl, rfl, rfl, hd0, hd1, HX.out.2.2.2.1, HX.out.1, ?_, ?_, HX.out.2.2.1.alloc HX.out.2.2.1.size _⟩
        · rw [bl_app, bl_one (by omega) (by omega), HX.out.2.1]
          rfl
        · have := HX.out.2.2.2.2
          rw [ByteArray.size_append, hsb]
          omega
    · have hE : bl s = nbF 8 n := by
        rw [hnb, hbs]
        cases gk with
        | zero => rfl
        | succ g => rw [nbF, if_pos (by omega)]; rfl
      have HX : Hid _ := And.intro hE (And.intro hbel hsz)
      clear hE hnb hbs hbel hsz mp
      go_wp2_with fail
      go_ret
      exact ⟨s, rfl, HX.out.1, by have := HX.out.2.2; omega, HX.out.2.1⟩
theorem nb_dc {n : Int} (h0 : 0 ≤ n) (h1 : n ≤ 1000) : nbF 8 n = dcS n.toNat := by
  have : ((List.range 1001).all fun (n : Nat) => decide (nbF 8 (Int.ofNat n) = dcS n)) = true := by decide +kernel
  have := List.all_eq_true.1 this n.toNat (by rw [List.mem_range]; omega)
  have e : Int.ofNat n.toNat = n := by simp; omega
  rw [e] at this
  simpa using this
end Go.Proofs.Ythlkbijpphdblaa
