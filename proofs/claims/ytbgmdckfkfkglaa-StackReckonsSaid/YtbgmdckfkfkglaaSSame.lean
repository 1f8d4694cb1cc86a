/- Two rows of words are the same. -/
import Derived.Test.YtbgmdckfkfkglaaSEcho
import Derived.Deep.QuietTactic
set_option linter.unusedSimpArgs false
set_option linter.unusedVariables false
namespace Go.Proofs.Ytbgmdckfkfkglaa
open Go.RowKit M

set_option maxRecDepth 10000 in
set_option maxHeartbeats 1600000 in
theorem i32s_same (b1 b2 : Nat) (s1 s2 : Value) (X : List Int) (w : World) (h1 : Src w b1 s1 (I32s X)) (h2 : Src w b2 s2 (I32s X)) (hl : X.length ≤ 1000) :
    Calls Try.prog 40 #[s1, s2] w fun e w' => e = .returned (.bool true) ∧ Only Nil w w' := by
  obtain ⟨n, hn⟩ : ∃ n, X.length = n := ⟨_, rfl⟩
  obtain ⟨ao1, cap1, off1, rfl, p2, p3, p4⟩ := h1
  obtain ⟨ao2, cap2, off2, rfl, q2, q3, q4⟩ := h2
  rw [I32s_len, hn] at p2 q2
  rw [I32s_len, hn]
  have HN := Lib.hid hn
  have H1 := Lib.hid p4
  have H2 := Lib.hid q4
  have G1 := Lib.hid p2
  have G2 := Lib.hid q2
  rw [hn] at hl
  clear hn p4 p3 p2 q4 q3 q2
  go_enter Try.func40, Try.ntmps40
  go_wp2_with fail
  go_loopg [5] n (fun m i wr => m ≤ n ∧ i = .int .i64 ((n - m : Nat) : Int) ∧ Only Nil w wr)
  case atStart => exact ⟨Nat.le_refl _, by simp, Only.refl _ _⟩
  case round =>
    obtain ⟨hm, rfl, ho⟩ := hrel
    obtain ⟨m, rfl⟩ : ∃ m, m = gk := ⟨gk, rfl⟩
    obtain ⟨k, hk⟩ : ∃ k, n - m = k := ⟨_, rfl⟩
    rw [hk]
    have hkn : k ≤ n := by omega
    have HK := Lib.hid hk
    clear hk
    by_cases hkl : k < n
    · have hkl2 : k < X.length := by rw [HN.out]; exact hkl
      obtain ⟨y, hy⟩ : ∃ y, X[k]? = some y := ⟨_, List.getElem?_eq_getElem hkl2⟩
      have hi : (I32s X)[k]? = some (.int .i32 y) := by simp [I32s, hy]
      have e1 := G1.out (by omega)
      have e2 := G2.out (by omega)
      subst e1
      subst e2
      have t1 := ho.cell (H1.out k _ hi) (fun h => h)
      have t2 := ho.cell (H2.out k _ hi) (fun h => h)
      have k0 : (0 : Int) ≤ (k : Int) := Int.natCast_nonneg _
      have k1 : (k : Int) < (n : Int) := by omega
      clear hi hy hkl2
      go_wp2_with fail
      go_quiet (fail)
      go_wp2_with fail
      go_roundg (m - 1)
      case measure => have := HK.out; omega
      case rel => exact ⟨by omega, by have := HK.out; go_num, M.Only.drewN ho _⟩
    · have hkl2 : k = n := by omega
      subst hkl2
      go_wp2_with fail
      go_ret
      exact ⟨rfl, ho⟩

end Go.Proofs.Ytbgmdckfkfkglaa
