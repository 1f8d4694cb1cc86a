/- The document's leaves of reckoning. -/
import Derived.Test.YtgicibblkmeoeaaProg
import Derived.Test.YtgicibblkmeoeaaWBase
import Derived.Test.YtgicibblkmeoeaaQSame
import Derived.Test.YtgicibblkmeoeaaACalls
import Derived.Test.YtgicibblkmeoeaaABits
import Derived.Test.YtgicibblkmeoeaaASpan
import Derived.Laws.BitsAllLaws
set_option linter.unusedSimpArgs false
set_option linter.unusedVariables false
namespace Go.Proofs.Ytgicibblkmeoeaa
open Go.RowKit M


theorem isR_any (op f n i : Int) (nm st : ByteArray) (ov xv : Value) (w : World) :
    Calls Try.prog 26 #[.agg #[.int .i64 op, .int .i64 f, .int .i64 n, .string nm, ov, .int .i32 i, .string st, xv]] w fun e w' => e = .returned (.bool (isCB op f)) ∧ Only Nil w w' := by
  obtain ⟨r, hr⟩ : ∃ r, isCB op f = r := ⟨_, rfl⟩
  rw [hr]
  unfold isCB at hr
  by_cases h0 : op = 0
  · subst h0
    by_cases h1 : 1 ≤ f
    · by_cases h2 : f ≤ 4
      · have e : true = r := by rw [← hr]; simp; omega
        subst e
        clear hr
        go_enter Try.func26, Try.ntmps26
        go_wp2
        go_ret
        exact ⟨rfl, alloc_nil _ _⟩

      · have e : false = r := by rw [← hr]; simp; omega
        subst e
        clear hr
        have h3 : decide (f ≤ 4) = false := by simp; omega
        have h4 : 4 < f := by omega
        clear h2
        go_enter Try.func26, Try.ntmps26
        go_wp2
        go_ret
        exact ⟨rfl, alloc_nil _ _⟩

    · have e : false = r := by rw [← hr]; simp; omega
      subst e
      clear hr
      have h3 : decide (1 ≤ f) = false := by simp; omega
      have h4 : f < 1 := by omega
      clear h1
      go_enter Try.func26, Try.ntmps26
      go_wp2
      go_ret
      exact ⟨rfl, alloc_nil _ _⟩

  · have h2 : (op == 0) = false := by simpa using h0
    rw [h2] at hr
    subst hr
    clear h0
    go_enter Try.func26, Try.ntmps26
    go_wp2
    go_ret
    exact ⟨rfl, alloc_nil _ _⟩

theorem flag_any (b : Bool) (w : World) : Calls Try.prog 156 #[.bool b] w fun e w' => e = .returned (.int .i32 (flagM b)) ∧ w = w' := by
  cases b
  ·
    go_enter Try.func156, Try.ntmps156
    go_wp2
    go_ret
    exact ⟨rfl, rfl⟩

  ·
    go_enter Try.func156, Try.ntmps156
    go_wp2
    go_ret
    exact ⟨rfl, rfl⟩


/-- How many the document says that an operator has: an element and a span have some too. -/
def arR (op : Int) : Nat := if op = 25 then 1 else if op = 26 then 2 else arM op
theorem arity_any (op : Int) (w : World) : Calls Try.prog 116 #[.int .i64 op] w fun e w' => e = .returned (.int .i64 (arR op : Nat)) ∧ w = w' := by
  have hf : (op = 7 ∨ op = 8 ∨ op = 27 ∨ op = 28 ∨ op = 32 ∨ op = 33 ∨ op = 25) ∨ (op = 29 ∨ op = 30 ∨ op = 31 ∨ op = 26) ∨ ((op == 7) = false ∧ (op == 8) = false ∧ (op == 27) = false ∧ (op == 28) = false ∧ (op == 32) = false ∧ (op == 33) = false ∧ (op == 25) = false ∧ (op == 29) = false ∧ (op == 30) = false ∧ (op == 31) = false ∧ (op == 26) = false) := by simp; omega
  rcases hf with (rfl | rfl | rfl | rfl | rfl | rfl | rfl) | (rfl | rfl | rfl | rfl) | ⟨h1, h2, h3, h4, h5, h6, h7, h8, h9, h10, h11⟩
  ·
    go_enter Try.func116, Try.ntmps116
    go_wp2
    go_ret
    exact ⟨rfl, rfl⟩
  ·
    go_enter Try.func116, Try.ntmps116
    go_wp2
    go_ret
    exact ⟨rfl, rfl⟩
  ·
    go_enter Try.func116, Try.ntmps116
    go_wp2
    go_ret
    exact ⟨rfl, rfl⟩
  ·
    go_enter Try.func116, Try.ntmps116
    go_wp2
    go_ret
    exact ⟨rfl, rfl⟩
  ·
    go_enter Try.func116, Try.ntmps116
    go_wp2
    go_ret
    exact ⟨rfl, rfl⟩
  ·
    go_enter Try.func116, Try.ntmps116
    go_wp2
    go_ret
    exact ⟨rfl, rfl⟩
  ·
    go_enter Try.func116, Try.ntmps116
    go_wp2
    go_ret
    exact ⟨rfl, rfl⟩
  ·
    go_enter Try.func116, Try.ntmps116
    go_wp2
    go_ret
    exact ⟨rfl, rfl⟩
  ·
    go_enter Try.func116, Try.ntmps116
    go_wp2
    go_ret
    exact ⟨rfl, rfl⟩
  ·
    go_enter Try.func116, Try.ntmps116
    go_wp2
    go_ret
    exact ⟨rfl, rfl⟩
  ·
    go_enter Try.func116, Try.ntmps116
    go_wp2
    go_ret
    exact ⟨rfl, rfl⟩
  · have e0 : arR op = if 9 ≤ op ∧ op ≤ 22 then 2 else 0 := by
      simp at h1 h2 h3 h4 h5 h6 h7 h8 h9 h10 h11
      unfold arR arM
      rw [if_neg h7, if_neg h11, if_neg (by omega)]
      by_cases h : 9 ≤ op ∧ op ≤ 22
      · rw [if_pos (Or.inl h), if_pos h]
      · rw [if_neg (by omega), if_neg h]
    by_cases g1 : 9 ≤ op
    · by_cases g2 : op ≤ 22
      · rw [if_pos ⟨g1, g2⟩] at e0
        rw [e0]
        clear e0
        go_enter Try.func116, Try.ntmps116
        go_wp2
        go_ret
        exact ⟨rfl, rfl⟩

      · rw [if_neg (by omega)] at e0
        rw [e0]
        have g3 : decide (op ≤ 22) = false := by simp; omega
        have g4 : 22 < op := by omega
        clear e0 g2
        go_enter Try.func116, Try.ntmps116
        go_wp2
        go_ret
        exact ⟨rfl, rfl⟩

    · rw [if_neg (by omega)] at e0
      rw [e0]
      have g3 : decide (9 ≤ op) = false := by simp; omega
      have g4 : op < 9 := by omega
      clear e0 g1
      go_enter Try.func116, Try.ntmps116
      go_wp2
      go_ret
      exact ⟨rfl, rfl⟩


theorem compl_i (i : Int) (hi : I32 i) : bits BinOp.xor IntKind.i32 (-1) i = S (4294967295 - U i) := by
  have hu := U_lt i
  conv => lhs; arg 3; rw [show (-1 : Int) = S 4294967295 from rfl]
  conv => lhs; arg 4; rw [← S_U i hi]
  rw [xor_S _ _ (by decide) hu, ones_xor _ hu]
theorem odd_i (i : Int) (hi : I32 i) : bits BinOp.and IntKind.i32 i 1 = ((U i % 2 : Nat) : Int) := and_mask i 1 hi (by decide)
set_option maxHeartbeats 800000 in
theorem unary_any (o f i : Int) (w : World) (h : o = 7 ∨ o = 8 ∨ o = 27 ∨ o = 28 ∨ o = 32 ∨ o = 33) (hi : I32 i) :
    Calls Try.prog 119 #[.int .i64 o, .int .i64 f, .int .i32 i] w fun e w' => VEnd i (oneM o f i) e ∧ w = w' := by
  have HI := Lib.hid hi
  unfold I32 at hi
  rcases h with rfl | rfl | rfl | rfl | rfl | rfl
  · by_cases hf : f = 4
    · subst hf
      go_enter Try.func119, Try.ntmps119
      go_wp2
      go_ret2
      exact ⟨vend_some (v' := S (4294967295 - U i)) rfl (compl_i i HI.out), rfl⟩

    · have e1 : (f == 4) = false := by simpa using hf
      have E := Lib.hid (show oneM 7 f i = some (wrap32 (-i)) by unfold oneM; simp [hf])
      clear hf
      go_enter Try.func119, Try.ntmps119
      go_wp2
      go_ret2
      exact ⟨vend_some E.out rfl, rfl⟩

  · have CT := fun w => flag_any (i == 0) w
    obtain ⟨r, hr⟩ : ∃ r, (i == 0) = r := ⟨_, rfl⟩
    have E := Lib.hid (show oneM 8 f i = some (flagM r) by unfold oneM; simp [hr])
    rw [hr] at CT
    clear hi
    go_enter Try.func119, Try.ntmps119
    go_wp2_with (go_at_call 156; refine (CT _).mono ?_; rintro e w1 ⟨rfl, rfl⟩)
    go_ret2
    exact ⟨vend_some E.out rfl, rfl⟩

  · by_cases h0 : i < 0
    · have E := Lib.hid (show oneM 27 f i = some (wrap32 (-i)) by unfold oneM; simp [h0])
      go_enter Try.func119, Try.ntmps119
      go_wp2
      go_ret2
      exact ⟨vend_some E.out rfl, rfl⟩

    · have E := Lib.hid (show oneM 27 f i = some i by unfold oneM; simp [h0])
      go_enter Try.func119, Try.ntmps119
      go_wp2
      go_ret2
      exact ⟨vend_some E.out rfl, rfl⟩

  · clear hi
    go_enter Try.func119, Try.ntmps119
    go_wp2
    go_ret2
    exact ⟨vend_some (v' := ((U i % 2 : Nat) : Int)) rfl (odd_i i HI.out), rfl⟩

  · clear hi
    go_enter Try.func119, Try.ntmps119
    go_wp2
    go_ret2
    exact ⟨vend_some rfl rfl, rfl⟩

  · by_cases h0 : i < 0
    · have E := Lib.hid (show oneM 33 f i = none by unfold oneM; simp; omega)
      have h2 : decide (0 ≤ i) = false := by simp; omega
      go_enter Try.func119, Try.ntmps119
      go_wp2
      go_ret2
      exact ⟨vend_none E.out, rfl⟩

    · have h3 : 0 ≤ i := by omega
      clear h0
      by_cases h1 : i ≤ 255
      · have E := Lib.hid (show oneM 33 f i = some i by unfold oneM; simp; omega)
        go_enter Try.func119, Try.ntmps119
        go_wp2
        go_ret2
        exact ⟨vend_some E.out rfl, rfl⟩

      · have E := Lib.hid (show oneM 33 f i = none by unfold oneM; simp; omega)
        have h2 : decide (i ≤ 255) = false := by simp; omega
        have h4 : 255 < i := by omega
        clear h1
        go_enter Try.func119, Try.ntmps119
        go_wp2
        go_ret2
        exact ⟨vend_none E.out, rfl⟩

end Go.Proofs.Ytgicibblkmeoeaa
