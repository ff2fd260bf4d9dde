/- Acts in memory; few. -/
import Derived.Test.YtgidbmiahckleaaCl0
import Derived.BigQuiet
namespace Go.Proofs.Ytgidbmiahckleaa
open Go.RowKit
set_option linter.unusedVariables false

/-- An act: its number, its name, its attributes (where they lie), what is asked. -/
structure AD where
  op : Int
  nm : ByteArray
  a : Option Addr
  cap : Nat
  ats : Ats
  ask : ByteArray
structure ActOk (w : World) (d : AD) : Prop where
  zn : d.nm.size ≤ 140737488355328
  za : d.ask.size ≤ 140737488355328
  zl : d.ats.length ≤ 140737488355328
  at' : AtO w d.a d.ats
  cp : d.a = none → d.cap = 0
  zs : ∀ x ∈ d.ats, x.1.size ≤ 140737488355328 ∧ x.2.1.size ≤ 140737488355328
/-- Acts in memory. -/
def ActR (w : World) (g off : Nat) (l : List AD) : Prop :=
  g < w.heap.size ∧ l.length ≤ maxLen ∧ ∀ i (hi : i < l.length), w.cell? ⟨g, off + i * 4, none⟩ = some (.int .i64 (l[i]'hi).op) ∧ w.cell? ⟨g, off + i * 4 + 1, none⟩ = some (.string (l[i]'hi).nm) ∧ w.cell? ⟨g, off + i * 4 + 2, none⟩ = some (.slice (l[i]'hi).a (l[i]'hi).ats.length (l[i]'hi).cap) ∧ w.cell? ⟨g, off + i * 4 + 3, none⟩ = some (.string (l[i]'hi).ask) ∧ ActOk w (l[i]'hi)
def ActO (w : World) (a : Option Addr) (l : List AD) : Prop := l = [] ∨ ∃ g off, a = some ⟨g, off, none⟩ ∧ ActR w g off l
theorem Below.drewN' {w : World} (k : Nat) : Below w.heap.size w (w.drewN k) := ⟨rfl, rfl, rfl, Nat.le_refl _, fun _ _ => rfl⟩
set_option maxRecDepth 100000 in
set_option maxHeartbeats 3200000 in
theorem few_s (a : Option Addr) (cap : Nat) (l : List AD) (w : World) (hA : ActO w a l) :
    Calls Try.prog 8 #[.slice a l.length cap] w fun e w' => ∃ b, e = .returned (.bool b) ∧ (b = true → l.length ≤ 60 ∧ ∀ d ∈ l, d.ats.length ≤ 16384) ∧ Below w.heap.size w w' := by
  by_cases h60 : 60 < l.length
  · have h60' : (60 : Int) < (l.length : Int) := by omega
    go_enter Try.func8, Try.ntmps8
    go_wp2_with fail
    go_ret
    exact ⟨false, rfl, fun q => by simp at q, Below.refl _ _⟩
  have h60' : ¬ (60 : Int) < (l.length : Int) := by omega
  have HA : Hid _ := hA
  clear hA
  go_enter Try.func8, Try.ntmps8
  go_wp2_with fail
  go_loopg [3, 4] l.length (fun m v3 v4 wr => ∃ (n : Int) (i : Nat), v3 = .int .i64 n ∧ v4 = .int .i64 i ∧ i + m = l.length ∧ 0 ≤ n ∧ n ≤ 16384 ∧ (∀ j (hj : j < l.length), j < i → (l[j]'hj).ats.length ≤ 16384) ∧ Below w.heap.size w wr)
  case atStart => exact ⟨0, 0, rfl, rfl, by omega, by omega, by omega, fun j hj q => by omega, Below.refl _ _⟩
  case round =>
    obtain ⟨n, i, rfl, rfl, him, hn0, hn1, hall, hbw⟩ := hrel
    by_cases hi : i < l.length
    · obtain ⟨m, rfl⟩ : ∃ m, gk = m + 1 := ⟨gk - 1, by omega⟩
      rcases HA.out with hl0 | ⟨g, off, rfl, hgl, _, hcell⟩
      · rw [hl0] at hi; simp at hi
      obtain ⟨c0, c1, c2, c3, hok⟩ := hcell i hi
      have d1 := (hbw.cell (p := ⟨g, off + i * 4 + 1, none⟩) hgl).trans c1
      have d2 := (hbw.cell (p := ⟨g, off + i * 4 + 2, none⟩) hgl).trans c2
      have d3 := (hbw.cell (p := ⟨g, off + i * 4 + 3, none⟩) hgl).trans c3
      have hstep : (l[i]'hi).ats.length ≤ 16384 → ∀ j (hj : j < l.length), j < i + 1 → (l[j]'hj).ats.length ≤ 16384 := fun q j hj hji => by
        by_cases e : j = i
        · subst e; exact q
        · exact hall j hj (by omega)
      generalize (l[i]'hi) = D at *
      obtain ⟨op, nm, aa, ac', ats, ask⟩ := D
      dsimp only at *
      have zn := hok.zn
      have za := hok.za
      have zl := hok.zl
      dsimp only at zn za zl
      have HI : Hid _ := And.intro hok (And.intro hstep hbw)
      clear hok hstep hall c0 c1 c2 c3 hcell hbw
      go_wp2_with fail
      go_quiet (fail)
      go_wp2_with fail
      go_loopg [3, 5] ats.length (fun m2 v3 v5 wr2 => ∃ (n2 : Int) (k : Nat), v3 = .int .i64 n2 ∧ v5 = .int .i64 k ∧ k + m2 = ats.length ∧ (ats.length : Int) ≤ n2 ∧ n2 ≤ 16384 + 3 * 140737488355328 ∧ (0 < k → n2 ≤ 16384) ∧ Below w.heap.size w wr2)
      case atStart => exact ⟨_, 0, rfl, rfl, by omega, by omega, by omega, fun q => by omega, HI.out.2.2.trans ((Below.drewN' _).mono HI.out.2.2.size)⟩
      case round =>
        obtain ⟨n2, k, rfl, rfl, hk2, hn2, hn3, hn4, hbw2⟩ := hrel
        have f2 := (hbw2.cell (p := ⟨g, off + i * 4 + 2, none⟩) hgl).trans ((HI.out.2.2.cell (p := ⟨g, off + i * 4 + 2, none⟩) hgl).symm.trans d2)
        have HB2 : Hid _ := hbw2
        clear hbw2
        by_cases hk : k < ats.length
        · rcases HI.out.1.at' with he | ⟨ag, ao, haa, hag, _, hac⟩
          · dsimp only at he; rw [he] at hk; simp at hk
          dsimp only at haa
          subst haa
          obtain ⟨a0, a1, a2, _⟩ := hac k hk
          have hzz := HI.out.1.zs (ats[k]'hk) (List.getElem_mem hk)
          have p0 := (HB2.out.cell (p := ⟨ag, ao + k * 3, none⟩) hag).trans a0
          have p1 := (HB2.out.cell (p := ⟨ag, ao + k * 3 + 1, none⟩) hag).trans a1
          generalize (ats[k]'hk) = A at *
          obtain ⟨an, av, ap⟩ := A
          obtain ⟨z1, z2⟩ := hzz
          dsimp only at *
          have hn5 : n2 ≤ 16384 + 3 * 140737488355328 := hn3
          obtain ⟨m2, rfl⟩ : ∃ m2, gk = m2 + 1 := ⟨gk - 1, by omega⟩
          clear a0 a1 a2 hac
          go_wp2_with fail
          go_quiet (fail)
          by_cases hbig : 16384 < n2 + ↑an.size + ↑av.size
          · go_wp2_with fail
            go_ret
            exact ⟨false, rfl, fun q => by simp at q, HB2.out.trans ((Below.drewN' _).mono HB2.out.size)⟩
          · go_wp2_with fail
            go_roundg m2
            case measure => omega
            case rel => exact ⟨_, k + 1, rfl, rfl, by omega, by omega, by omega, fun _ => by omega, HB2.out.trans ((Below.drewN' _).mono HB2.out.size)⟩
        · obtain rfl : k = ats.length := by omega
          by_cases hbig : 16384 < n2
          · go_wp2_with fail
            go_ret
            exact ⟨false, rfl, fun q => by simp at q, HB2.out⟩
          · go_wp2_with fail
            go_roundg m
            case measure => omega
            case rel => exact ⟨n2, i + 1, rfl, rfl, by omega, by omega, by omega, HI.out.2.1 (by omega), HB2.out⟩
    · obtain rfl : i = l.length := by omega
      go_wp2_with fail
      go_ret
      refine ⟨true, rfl, fun _ => ⟨by omega, fun d hd => ?_⟩, hbw⟩
      obtain ⟨j, hj, rfl⟩ := List.mem_iff_getElem.1 hd
      exact hall j hj hj
end Go.Proofs.Ytgidbmiahckleaa
