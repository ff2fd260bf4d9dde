/- The four texts of the law, and their trees. -/
import Derived.Test.YthlkbijpphdblaaJ2
namespace Go.Proofs.Ythlkbijpphdblaa
set_option linter.unusedVariables false

theorem wh_row {L : Bs} {x : Nd} (hl : L.length ≤ 4096) (h : rowS (atomS L 41 0) L 0 = .ok x L.length) : parS L = .ok x L.length := by
  unfold parS whS patS
  rw [if_neg (by omega), h, R.bind_ok, als_endj (sk_end (Nat.le_refl _)), R.bind_ok, if_pos rfl]
  rfl
theorem wh_badj {L : Bs} {i e : Int} (hl : L.length ≤ 4096) (h : rowS (atomS L 41 0) L 0 = .bad i e) : parS L = .bad i e := by
  unfold parS whS patS
  rw [if_neg (by omega), h, R.bind_bad, R.bind_bad]
theorem go_open {L : Bs} {k : Nat} (hk : k < L.length) (h : L.getD k 0 = 40) : goS L k = .ok true k := go_at hk h (by decide)
abbrev tP (a : Bs) : Bs := 40 :: (a ++ [41])
abbrev tQ (a b : Bs) : Bs := 40 :: (a ++ 41 :: 124 :: 40 :: (b ++ [41]))
abbrev tR (a b : Bs) : Bs := 40 :: (a ++ 41 :: 40 :: (b ++ [41]))
abbrev tS (a : Bs) (lo hi : Nat) : Bs := 40 :: (a ++ 41 :: 123 :: (dcS lo ++ 44 :: (dcS hi ++ [125])))
theorem form_p {a : Bs} {x : Nd} (hl : a.length ≤ 300) : (atomS (tP a) 41 0 0 = .ok x (a.length + 2) → parS (tP a) = .ok x (tP a).length) ∧ ∀ i, atomS (tP a) 41 0 0 = .bad i 3 → parS (tP a) = .bad i 3 := by
  have hn : (tP a).length = a.length + 2 := by simp
  have hg : goS (tP a) 0 = .ok true 0 := go_open (by omega) rfl
  refine ⟨fun h => ?_, fun i h => ?_⟩
  · refine wh_row (by omega) ?_
    unfold rowS
    rw [hn, pcs_step hg h (tim_end (by omega)), pcs_endj (by rw [← hn]; exact go_end _)]
    rfl
  · refine wh_badj (by omega) ?_
    unfold rowS
    exact pcs_badj hg h
theorem form_q {a b : Bs} {x y : Nd} (hl : a.length ≤ 300) (hb : b.length ≤ 300) : (atomS (tQ a b) 41 0 0 = .ok x (a.length + 2) → (atomS (tQ a b) 41 0 (a.length + 3) = .ok y (a.length + b.length + 5) → parS (tQ a b) = .ok (.nd 4 [] 0 0 [x, y]) (tQ a b).length) ∧ ∀ i, atomS (tQ a b) 41 0 (a.length + 3) = .bad i 3 → parS (tQ a b) = .bad i 3) ∧ ∀ i, atomS (tQ a b) 41 0 0 = .bad i 3 → parS (tQ a b) = .bad i 3 := by
  obtain ⟨L, hL⟩ : ∃ L, tQ a b = L := ⟨_, rfl⟩
  have hn : L.length = a.length + b.length + 5 := by rw [← hL]; simp; omega
  have hg : goS L 0 = .ok true 0 := go_open (by omega) (by rw [← hL]; rfl)
  have e1 : L = (40 :: (a ++ [41])) ++ (124 :: 40 :: (b ++ [41])) := by rw [← hL]; simp
  have h1 : L.getD (a.length + 2) 0 = 124 := by
    have := gd_in (40 :: (a ++ [41])) (124 :: 40 :: (b ++ [41])) 0
    rw [← e1] at this
    simpa using this
  have h2 : L.getD (a.length + 3) 0 = 40 := by
    have := gd_in (40 :: (a ++ [41])) (124 :: 40 :: (b ++ [41])) 1
    rw [← e1] at this
    simpa using this
  rw [hL]
  have hg1 : goS L (a.length + 2) = .ok false (a.length + 2) := go_at (by omega) h1 (by decide)
  have hg2 : goS L (a.length + 3) = .ok true (a.length + 3) := go_open (by omega) h2
  have hr1 : ∀ z, atomS L 41 0 0 = .ok z (a.length + 2) → rowS (atomS L 41 0) L 0 = .ok z (a.length + 2) := fun z h => by
    unfold rowS
    rw [hn, pcs_step hg h (tim_at h1 (by decide) (by decide) (by decide) (by decide)), pcs_endj hg1]
    rfl
  refine ⟨fun h => ⟨fun h' => ?_, fun i h' => ?_⟩, fun i h => ?_⟩
  · unfold parS whS patS
    rw [if_neg (by omega), hr1 x h, R.bind_ok]
    have hr2 : rowS (atomS L 41 0) L (a.length + 3) = .ok y (a.length + b.length + 5) := by
      unfold rowS
      rw [hn, pcs_step hg2 h' (tim_end (by omega)), pcs_endj (by rw [← hn]; exact go_end _)]
      rfl
    have ha : alsS (atomS L 41 0) L (L.length + 1) [x] (a.length + 2) = .ok (.nd 4 [] 0 0 [x, y]) L.length := by
      rw [hn]
      simp only [alsS]
      rw [if_pos (sk_on (by omega) h1), show a.length + 2 + 1 = a.length + 3 by omega, hr2, R.bind_ok, if_neg (by rw [sk_end (by omega)]; decide)]
      rfl
    rw [ha, R.bind_ok, if_pos rfl]
  · unfold parS whS patS
    rw [if_neg (by omega), hr1 x h, R.bind_ok]
    simp only [alsS]
    rw [if_pos (sk_on (by omega) h1), show a.length + 2 + 1 = a.length + 3 by omega]
    have hr2 : rowS (atomS L 41 0) L (a.length + 3) = .bad i 3 := by
      unfold rowS
      exact pcs_badj hg2 h'
    rw [hr2, R.bind_bad, R.bind_bad]
  · refine wh_badj (by omega) ?_
    unfold rowS
    exact pcs_badj hg h
theorem form_r {a b : Bs} {x y : Nd} (hl : a.length ≤ 300) (hb : b.length ≤ 300) (h : atomS (tR a b) 41 0 0 = .ok x (a.length + 2)) (h' : atomS (tR a b) 41 0 (a.length + 2) = .ok y (a.length + b.length + 4)) : parS (tR a b) = .ok (.nd 3 [] 0 0 [x, y]) (tR a b).length := by
  obtain ⟨L, hL⟩ : ∃ L, tR a b = L := ⟨_, rfl⟩
  have hn : L.length = a.length + b.length + 4 := by rw [← hL]; simp; omega
  have hg : goS L 0 = .ok true 0 := go_open (by omega) (by rw [← hL]; rfl)
  have e1 : L = (40 :: (a ++ [41])) ++ (40 :: (b ++ [41])) := by rw [← hL]; simp
  have h1 : L.getD (a.length + 2) 0 = 40 := by
    have := gd_in (40 :: (a ++ [41])) (40 :: (b ++ [41])) 0
    rw [← e1] at this
    simpa using this
  rw [hL] at h h' ⊢
  have hg1 : goS L (a.length + 2) = .ok true (a.length + 2) := go_open (by omega) h1
  refine wh_row (by omega) ?_
  unfold rowS
  rw [hn, pcs_step hg h (tim_at h1 (by decide) (by decide) (by decide) (by decide)), pcs_step hg1 h' (tim_end (by omega)), pcs_endj (by rw [← hn]; exact go_end _)]
  rfl
theorem dc_len {n : Nat} (h : n ≤ 1000) : (dcS n).length ≤ 4 ∧ 0 < (dcS n).length ∧ 48 ≤ (dcS n).getD 0 0 ∧ (dcS n).getD 0 0 ≤ 57 := by
  have : ((List.range 1001).all fun n => decide ((dcS n).length ≤ 4 ∧ 0 < (dcS n).length ∧ 48 ≤ (dcS n).getD 0 0 ∧ (dcS n).getD 0 0 ≤ 57)) = true := by decide +kernel
  have := List.all_eq_true.1 this n (by rw [List.mem_range]; omega)
  simpa using this
theorem form_s {a : Bs} {x : Nd} {lo hi : Nat} (hl : a.length ≤ 300) (hlo : lo ≤ hi) (hhi : hi ≤ 1000) (h : atomS (tS a lo hi) 41 0 0 = .ok x (a.length + 2)) : parS (tS a lo hi) = .ok (.nd 5 [] lo hi [x]) (tS a lo hi).length := by
  have l1 := (dc_len (n := lo) (by omega)).1
  obtain ⟨l2, l3, l4, l5⟩ := dc_len hhi
  obtain ⟨L, hL⟩ : ∃ L, tS a lo hi = L := ⟨_, rfl⟩
  have hn : L.length = a.length + (dcS lo).length + (dcS hi).length + 5 := by rw [← hL]; simp; omega
  have hg : goS L 0 = .ok true 0 := go_open (by omega) (by rw [← hL]; rfl)
  have e1 : L = (40 :: (a ++ [41])) ++ (123 :: (dcS lo ++ 44 :: (dcS hi ++ [125]))) := by rw [← hL]; simp
  have h1 : L.getD (a.length + 2) 0 = 123 := by
    have := gd_in (40 :: (a ++ [41])) (123 :: (dcS lo ++ 44 :: (dcS hi ++ [125]))) 0
    rw [← e1] at this
    simpa using this
  have e2 : L = (40 :: (a ++ [41, 123])) ++ (dcS lo ++ 44 :: (dcS hi ++ [125])) := by rw [← hL]; simp
  have e3 : L = (40 :: (a ++ 41 :: 123 :: (dcS lo ++ [44]))) ++ (dcS hi ++ 125 :: []) := by rw [← hL]; simp
  have e4 : L = (40 :: (a ++ 41 :: 123 :: (dcS lo ++ 44 :: dcS hi))) ++ [125] := by rw [← hL]; simp
  have e5 : L = (40 :: (a ++ 41 :: 123 :: dcS lo)) ++ (44 :: (dcS hi ++ [125])) := by rw [← hL]; simp
  have n1 : ∀ op, numS L op 6 0 0 (a.length + 2 + 1) = .ok (lo : Int) (a.length + 3 + (dcS lo).length) := fun op => by
    have := num_dc (op := op) (n := lo) (by omega) e2 (by omega)
    have e : (40 :: (a ++ [41, 123])).length = a.length + 2 + 1 := by simp
    rw [e] at this
    exact this
  have h44 : L.getD (a.length + 3 + (dcS lo).length) 0 = 44 := by
    have := gd_in (40 :: (a ++ 41 :: 123 :: dcS lo)) (44 :: (dcS hi ++ [125])) 0
    rw [← e5] at this
    have e : (40 :: (a ++ 41 :: 123 :: dcS lo)).length + 0 = a.length + 3 + (dcS lo).length := by simp; omega
    rw [e] at this
    simpa using this
  have h125 : pkS L (a.length + 4 + (dcS lo).length + (dcS hi).length) = .ok 125 (a.length + 4 + (dcS lo).length + (dcS hi).length) := pk_in (j := 0) e4 (by simp; omega) (by simp) rfl (by decide)
  have n2 : ∀ op, numS L op 6 0 0 (a.length + 3 + (dcS lo).length + 1) = .ok (hi : Int) (a.length + 4 + (dcS lo).length + (dcS hi).length) := fun op => by
    have := num_dc (op := op) (n := hi) (by omega) e3 (by omega)
    have e : (40 :: (a ++ 41 :: 123 :: (dcS lo ++ [44]))).length = a.length + 3 + (dcS lo).length + 1 := by simp; omega
    rw [e] at this
    rw [this]
    congr 1
    omega
  have hd : ∃ d, L.getD (a.length + 3 + (dcS lo).length + 1) 0 = d ∧ 48 ≤ d ∧ d ≤ 57 := by
    have := gd_in (40 :: (a ++ 41 :: 123 :: (dcS lo ++ [44]))) (dcS hi ++ 125 :: []) 0
    rw [← e3] at this
    have e : (40 :: (a ++ 41 :: 123 :: (dcS lo ++ [44]))).length + 0 = a.length + 3 + (dcS lo).length + 1 := by simp; omega
    have e' : (dcS hi ++ 125 :: []).getD 0 0 = (dcS hi).getD 0 0 := by rw [List.getD_eq_getElem?_getD, List.getD_eq_getElem?_getD, List.getElem?_append_left l3]
    rw [e, e'] at this
    exact ⟨_, this, l4, l5⟩
  rw [hL] at h ⊢
  refine wh_row (by omega) ?_
  have ht : timS L (a.length + 2) = .ok ((lo : Int), (hi : Int), true) L.length := by
    unfold timS
    rw [if_neg (by rw [sk_at h1 (by decide)]; decide), if_neg (by rw [sk_at h1 (by decide)]; decide), if_neg (by rw [sk_at h1 (by decide)]; decide), if_pos (sk_on (by omega) h1)]
    unfold bndS
    obtain ⟨d, hd0, hd1, hd2⟩ := hd
    rw [n1, R.bind_ok, if_pos (sk_on (by omega) h44), pk_plain (by omega) hd0 (by omega), R.bind_ok, if_neg (by omega), n2, R.bind_ok]
    unfold bndE
    rw [h125, R.bind_ok, if_pos (by omega), R.bind_ok]
    simp only
    congr 1
    omega
  unfold rowS
  rw [hn, pcs_step hg h ht, pcs_endj (by exact go_end _), hn]
  rfl
/-- What the law's four texts are. -/
theorem joins_plain {a b : Bs} {x y : Nd} {ka kb lo hi : Nat} (ha : parS a = .ok x ka) (hb : parS b = .ok y kb) (la : a.length ≤ 300) (lb : b.length ≤ 300) (hlo : lo ≤ hi) (hhi : hi ≤ 1000) :
    (∃ i, parS (tP a) = .bad i 3) ∨ (∃ i, parS (tQ a b) = .bad i 3) ∨ ((∃ k, parS (tP a) = .ok x k) ∧ (∃ k, parS (tQ a b) = .ok (.nd 4 [] 0 0 [x, y]) k) ∧ (∃ k, parS (tR a b) = .ok (.nd 3 [] 0 0 [x, y]) k) ∧ ∃ k, parS (tS a lo hi) = .ok (.nd 5 [] lo hi [x]) k) := by
  have hP := form_p (a := a) (x := x) la
  have hQ := form_q (a := a) (b := b) (x := x) (y := y) la lb
  have PQ := paren2 (L := tP a) (M := tQ a b) (pre1 := []) (pre2 := []) ha rfl rfl
  have PR := paren2 (L := tP a) (M := tR a b) (pre1 := []) (pre2 := []) ha rfl rfl
  have PS := paren2 (L := tP a) (M := tS a lo hi) (pre1 := []) (pre2 := []) ha rfl rfl
  have QR := paren2 (L := tQ a b) (M := tR a b) (pre1 := 40 :: (a ++ [41, 124])) (pre2 := 40 :: (a ++ [41])) (post1 := []) (post2 := []) hb (by simp [tQ]) (by simp [tR])
  have z : ([] : Bs).length = 0 := rfl
  have z1 : (40 :: (a ++ [41, 124])).length = a.length + 3 := by simp
  have z2 : (40 :: (a ++ [41])).length = a.length + 2 := by simp
  rw [z, Nat.zero_add] at PQ PR PS
  rw [z1, z2] at QR
  rcases PQ with ⟨p1, q1⟩ | ⟨i, j, p1, _⟩
  · have r1 : atomS (tR a b) 41 0 0 = .ok x (a.length + 2) := by
      rcases PR with ⟨_, r⟩ | ⟨i, j, p, _⟩
      · exact r
      · rw [p1] at p; cases p
    have s1 : atomS (tS a lo hi) 41 0 0 = .ok x (a.length + 2) := by
      rcases PS with ⟨_, r⟩ | ⟨i, j, p, _⟩
      · exact r
      · rw [p1] at p; cases p
    obtain ⟨q2, q3⟩ := hQ.1 q1
    rcases QR with ⟨y1, y2⟩ | ⟨i, j, y1, _⟩
    · refine .inr (.inr ⟨⟨_, hP.1 p1⟩, ⟨_, q2 (by rw [y1]; congr 1; omega)⟩, ⟨_, form_r la lb r1 (by rw [y2]; congr 1; omega)⟩, ⟨_, form_s la hlo hhi s1⟩⟩)
    · exact .inr (.inl ⟨i, q3 i y1⟩)
  · exact .inl ⟨i, hP.2 i p1⟩
end Go.Proofs.Ythlkbijpphdblaa
