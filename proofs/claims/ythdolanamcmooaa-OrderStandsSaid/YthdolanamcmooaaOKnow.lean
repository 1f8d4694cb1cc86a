/- Layer 24: the laws' known. -/
import Derived.Test.YthdolanamcmooaaOMade
set_option linter.unusedSimpArgs false
set_option linter.unusedVariables false
namespace Go.Proofs.Ythdolanamcmooaa
open Go.RowKit M

set_option maxRecDepth 10000 in
set_option maxHeartbeats 1600000 in
theorem strs_same (b1 b2 : Nat) (s1 s2 : Value) (X : List ByteArray) (w : World) (h1 : Src w b1 s1 (Strs X)) (h2 : Src w b2 s2 (Strs X)) (hl : X.length ≤ 1000000) :
    Calls Try.prog 57 #[s1, s2] w fun e w' => e = .returned (.bool true) ∧ Only Nil w w' := by
  obtain ⟨ao1, cap1, off1, rfl, p2, p3, p4⟩ := h1
  obtain ⟨ao2, cap2, off2, rfl, q2, q3, q4⟩ := h2
  rw [Strs_len] at p2 q2
  rw [Strs_len]
  obtain ⟨n, hn⟩ : ∃ n, X.length = n := ⟨_, rfl⟩
  rw [hn] at p2 q2 hl ⊢
  have HN := Lib.hid hn
  have H1 := Lib.hid p4
  have H2 := Lib.hid q4
  have G1 := Lib.hid p2
  have G2 := Lib.hid q2
  clear hn p4 p3 p2 q4 q3 q2
  have e0 : ((n : Int) != (n : Int)) = false := by simp
  go_enter Try.func57, Try.ntmps57
  go_wp2_with fail
  go_loopg [5] n (fun g i wr => g ≤ n ∧ i = .int .i64 ((n - g : Nat) : Int) ∧ Only Nil w wr)
  case atStart => exact ⟨Nat.le_refl _, by simp, Only.refl _ _⟩
  case round =>
    obtain ⟨hm, rfl, ho⟩ := hrel
    obtain ⟨g, rfl⟩ : ∃ g, g = gk := ⟨gk, rfl⟩
    obtain ⟨k, hk⟩ : ∃ k, n - g = k := ⟨_, rfl⟩
    rw [hk]
    have hkn : k ≤ n := by omega
    have HK := Lib.hid hk
    clear hk
    have k0 : (0 : Int) ≤ (k : Int) := Int.natCast_nonneg _
    by_cases hkl : k < n
    · have k1 : (k : Int) < (n : Int) := by omega
      obtain ⟨y, hy⟩ : ∃ y, X[k]? = some y := ⟨_, List.getElem?_eq_getElem (by rw [HN.out]; exact hkl)⟩
      have e1 := G1.out (by omega)
      have e2 := G2.out (by omega)
      subst e1
      subst e2
      have t1 := ho.cell (H1.out k _ (Strs_at hy)) (fun h => h)
      have t2 := ho.cell (H2.out k _ (Strs_at hy)) (fun h => h)
      clear hy
      have e3 : (y.toList == y.toList) = true := by simp
      go_wp2_with fail
      go_quiet (fail)
      go_wp2_with fail
      go_roundg (g - 1)
      case measure => have := HK.out; omega
      case rel =>
        rw [show n - (g - 1) = k + 1 by have := HK.out; omega]
        exact ⟨by omega, by have := HK.out; go_num, (by (repeat with_reducible first | exact ho | refine Only.drewN ?_ _ | refine Only.drew ?_))⟩
    · have hkl2 : (n : Int) ≤ (k : Int) := by omega
      go_wp2_with fail
      go_ret
      exact ⟨rfl, ho⟩

def aB : ByteArray := ⟨#[65]⟩
def bB : ByteArray := ⟨#[66]⟩
def kL1 : List Md := [(aB, [outB, bB]), (bB, [])]
def kL2 : List Md := [(aB, [outB, bB]), (bB, [aB])]
instance (L : List Md) : Decidable (twice L) := by unfold twice; infer_instance
instance (L : List Md) : Decidable (missing L) := by unfold missing; infer_instance
theorem kL1_ord : OrdR kL1 [1, 0] 0 := Or.inr (Or.inr (Or.inr (Or.inr ⟨by decide, by decide +kernel, by decide +kernel, by decide +kernel, by decide +kernel, rfl⟩)))
theorem kL2_ord : OrdR kL2 [] 41 := Or.inr (Or.inr (Or.inr (Or.inl ⟨by decide, by decide +kernel, by decide +kernel, by decide +kernel, rfl, rfl⟩)))
theorem kL1_needs : needsM [outB, bB] = [bB] := by decide +kernel
end Go.Proofs.Ythdolanamcmooaa
