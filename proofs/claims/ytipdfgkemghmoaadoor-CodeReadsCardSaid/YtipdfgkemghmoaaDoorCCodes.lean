/- Codes of equal lists; Place. -/
import Derived.Test.YtipdfgkemghmoaaDoorCRows
import Derived.Deep.QuietTactic
import Derived.BigQuiet
set_option linter.unusedSimpArgs false
set_option linter.unusedVariables false
namespace Go.Proofs.YtipdfgkemghmoaaDoor
open Go.RowKit M

def placeN (k : Int) : Nat := (if k.tmod 34 < 0 then k.tmod 34 + 34 else k.tmod 34).toNat
theorem placeN_lt (k : Int) : placeN k < 34 := by
  have h1 := Int.lt_tmod_of_pos k (show (0:Int) < 34 by decide)
  have h2 := Int.tmod_lt_of_pos k (show (0:Int) < 34 by decide)
  unfold placeN
  split <;> omega
set_option maxHeartbeats 1600000 in
theorem place_any (k : Int) (w : World) :
    Calls Tryd.prog 7 #[.int .i64 k, .int .i64 34] w fun e w' => e = .returned (.int .i64 (placeN k : Nat)) ∧ w = w' := by
  have h1 := Int.lt_tmod_of_pos k (show (0:Int) < 34 by decide)
  have h2 := Int.tmod_lt_of_pos k (show (0:Int) < 34 by decide)
  have hp : (placeN k : Int) = if k.tmod 34 < 0 then k.tmod 34 + 34 else k.tmod 34 := by unfold placeN; split <;> omega
  obtain ⟨t, ht⟩ : ∃ t, k.tmod 34 = t := ⟨_, rfl⟩
  rw [ht] at h1 h2 hp
  have HP := Lib.hid hp
  clear hp
  by_cases h0 : t < 0
  · have hw : IntKind.i64.wrap t = t := by rw [IntKind.wrap_i64]; omega
    go_enter Tryd.func7, Tryd.ntmps7
    go_wp2
    go_ret
    exact ⟨ret_of (by rw [HP.out, if_pos h0]), rfl⟩
  · go_enter Tryd.func7, Tryd.ntmps7
    go_wp2
    go_ret
    exact ⟨ret_of (by rw [HP.out, if_neg (by omega)]), rfl⟩

set_option maxRecDepth 10000 in
set_option maxHeartbeats 1600000 in
theorem codes_same (b1 b2 : Nat) (s1 s2 : Value) (L : List Cod) (w : World) (h1 : CSrc w b1 s1 L) (h2 : CSrc w b2 s2 L) (hl : L.length ≤ 100000) :
    Calls Tryd.prog 12 #[s1, s2] w fun e w' => e = .returned (.bool true) ∧ Only Nil w w' := by
  obtain ⟨n, hn⟩ : ∃ n, L.length = n := ⟨_, rfl⟩
  obtain ⟨ao1, cap1, off1, rfl, p2, p3, p4, p5⟩ := h1
  obtain ⟨ao2, cap2, off2, rfl, q2, q3, q4, q5⟩ := h2
  rw [hn] at p2 p4 q2 q4 hl ⊢
  have HN := Lib.hid hn
  have H1 := Lib.hid p5
  have H2 := Lib.hid q5
  have G1 := Lib.hid p4
  have G2 := Lib.hid q4
  unfold maxLen at p3 q3
  clear hn p4 p5 q4 q5
  go_enter Tryd.func12, Tryd.ntmps12
  go_wp2_with fail
  go_loopg [5] n (fun m i wr => m ≤ n ∧ i = .int .i64 ((n - m : Nat) : Int) ∧ Only Nil w wr)
  case atStart => exact ⟨Nat.le_refl _, by simp, Only.refl _ _⟩
  case round =>
    obtain ⟨hm, rfl, ho⟩ := hrel
    obtain ⟨m, rfl⟩ : ∃ m, m = gk := ⟨gk, rfl⟩
    obtain ⟨k, hk⟩ : ∃ k, n - m = k := ⟨_, rfl⟩
    rw [hk]
    have hkn : k ≤ n := by omega
    have HK := Lib.hid hk
    clear hk
    by_cases hkl : k < n
    · have hkl2 : k < L.length := by rw [HN.out]; exact hkl
      have hat : L[k]? = some L[k] := List.getElem?_eq_getElem hkl2
      obtain ⟨y, hy⟩ : ∃ y, L[k] = y := ⟨_, rfl⟩
      rw [hy] at hat
      have e1 := G1.out (by omega)
      have e2 := G2.out (by omega)
      subst e1
      subst e2
      obtain ⟨r0, r1⟩ := (H1.out.kept ho (fun h => h)) k y hat
      obtain ⟨t0, t1⟩ := (H2.out.kept ho (fun h => h)) k y hat
      obtain ⟨op, kk⟩ := y
      simp only at r0 r1 t0 t1
      have k0 : (0 : Int) ≤ (k : Int) := Int.natCast_nonneg _
      have k1 : (k : Int) < (n : Int) := by omega
      clear hat hy hkl2
      go_wp2_with fail
      go_quiet (fail)
      go_wp2_with fail
      go_roundg (m - 1)
      case measure => have := HK.out; omega
      case rel => exact ⟨by omega, by have := HK.out; go_num, M.Only.drewN ho _⟩
    · have hkl2 : k = n := by omega
      subst hkl2
      go_wp2_with fail
      go_ret
      exact ⟨rfl, ho⟩
end Go.Proofs.YtipdfgkemghmoaaDoor
