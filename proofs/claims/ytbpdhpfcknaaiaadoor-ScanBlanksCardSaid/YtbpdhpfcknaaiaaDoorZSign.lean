/- Symbols: signs, the program's. -/
import Derived.Test.YtbpdhpfcknaaiaaDoorZTok
set_option linter.unusedSimpArgs false
set_option linter.unusedVariables false
namespace Go.Proofs.YtbpdhpfcknaaiaaDoor
open Go.RowKit M

theorem sig_one {c : Nat} (h : c = 43 ∨ c = 45 ∨ c = 42 ∨ c = 47 ∨ c = 38 ∨ c = 126 ∨ c = 61 ∨ c = 35 ∨ c = 44 ∨ c = 59 ∨ c = 40 ∨ c = 41 ∨ c = 91 ∨ c = 93 ∨ c = 123 ∨ c = 125 ∨ c = 94 ∨ c = 124) : sigB c = true ∧ ∀ d, twoB c d = false := by
  rcases h with rfl | rfl | rfl | rfl | rfl | rfl | rfl | rfl | rfl | rfl | rfl | rfl | rfl | rfl | rfl | rfl | rfl | rfl
  all_goals exact ⟨rfl, fun d => rfl⟩
theorem sig_no {c : Nat} (h : ¬ (c = 43 ∨ c = 45 ∨ c = 42 ∨ c = 47 ∨ c = 38 ∨ c = 126 ∨ c = 61 ∨ c = 35 ∨ c = 44 ∨ c = 59 ∨ c = 40 ∨ c = 41 ∨ c = 91 ∨ c = 93 ∨ c = 123 ∨ c = 125 ∨ c = 94 ∨ c = 124)) (h2 : ¬ (c = 60 ∨ c = 62 ∨ c = 58)) (h3 : ¬ c = 46) : sigB c = false ∧ ∀ d, twoB c d = false := by
  constructor
  · unfold sigB; simp; omega
  · intro d; unfold twoB; simp; omega

set_option maxRecDepth 10000 in
set_option maxHeartbeats 3200000 in
theorem sign_any (s : ByteArray) (n : Nat) (hn : s.size = n) (h0 : 0 < n) (hb : n ≤ 1000000) (w : World) :
    Calls Tryd.prog 37 #[.string s] w fun e w' => e = .returned (symV s (sigS (tx s) 0)) ∧ Only Nil w w' := by
  have hR : sigS (tx s) 0 = if 1 < n ∧ twoB (bt s 0) (bt s 1) = true then .ok ⟨5, 0, 2, 0, 2, 0⟩ else if sigB (bt s 0) then .ok ⟨5, 0, 1, 0, 1, 0⟩ else .error 30 := by
    unfold sigS; rw [show (tx s).n = n from hn]; rfl
  obtain ⟨R, hRR⟩ : ∃ R, sigS (tx s) 0 = R := ⟨_, rfl⟩
  rw [hRR] at hR ⊢
  have HR := Lib.hid hR
  have ix := fun w => ix_lit s n 0 0 rfl hn h0 w
  have one := fun a w => one_any s 1 a w
  rw [hn] at one
  have ONE := Lib.hid one
  clear hR hRR one
  have n0 : (0 : Int) < (n : Int) := by omega
  have n1 : (1 : Int) ≤ (n : Int) := by omega
  obtain ⟨c, hcc⟩ : ∃ c, bt s 0 = c := ⟨_, rfl⟩
  have HCC := Lib.hid hcc
  rw [hcc] at ix
  clear hcc
  by_cases g1 : c = 43 ∨ c = 45 ∨ c = 42 ∨ c = 47 ∨ c = 38 ∨ c = 126 ∨ c = 61 ∨ c = 35 ∨ c = 44 ∨ c = 59 ∨ c = 40 ∨ c = 41 ∨ c = 91 ∨ c = 93 ∨ c = 123 ∨ c = 125 ∨ c = 94 ∨ c = 124
  · have e := HR.out
    rw [HCC.out, (sig_one g1).1, (sig_one g1).2, if_neg (by simp), if_pos rfl] at e
    have HEE := Lib.hid e
    clear e HR
    rcases g1 with rfl | rfl | rfl | rfl | rfl | rfl | rfl | rfl | rfl | rfl | rfl | rfl | rfl | rfl | rfl | rfl | rfl | rfl
    all_goals
      go_enter Tryd.func37, Tryd.ntmps37
      go_wp2_with fail
      refine bodyPost_ret (results_row_tmp rfl _ _ w.heap.size 35 _ (0, 0) _ _ rfl rfl (Blk.new w _ _) Tryd.underlying35 rfl (by kernel_rfl)) rfl ?_
      exact ⟨retTok (s := s) (x := ⟨5, 0, 1, 0, 1, 0⟩) HEE.out, (Only.refl _ _).alloc _⟩
  by_cases g2 : c = 60 ∨ c = 62 ∨ c = 58
  · have hs1 : sigB c = true := by rcases g2 with rfl | rfl | rfl <;> rfl
    have hs2 : ∀ d, twoB c d = (d == 61) := by rcases g2 with rfl | rfl | rfl <;> intro d <;> simp [twoB]
    by_cases g4 : 1 < n ∧ bt s 1 = 61
    · have e := HR.out
      rw [HCC.out, if_pos ⟨g4.1, by rw [hs2, g4.2]; rfl⟩] at e
      have HEE := Lib.hid e
      have cP : ∀ w, Calls Tryd.prog 30 #[.string (s.extract 1 n), .string ⟨#[61]⟩] w fun e w' => e = .returned (.bool true) ∧ w = w' := fun w => by
        have := ONE.out 61 w; rwa [decide_eq_true (show 1 < n ∧ bt s 1 = (61 : UInt8).toNat from g4)] at this
      have n2 : (2 : Int) ≤ (n : Int) := by omega
      clear e HR hs1 hs2 g1 g4
      rcases g2 with rfl | rfl | rfl
      all_goals
        go_enter Tryd.func37, Tryd.ntmps37
        go_wp2_with fail
        refine (cP _).mono ?_
        rintro e w1 ⟨rfl, rfl⟩
        go_wp2_with fail
        refine bodyPost_ret (results_row_tmp rfl _ _ w.heap.size 35 _ (0, 0) _ _ rfl rfl (Blk.new w _ _) Tryd.underlying35 rfl (by kernel_rfl)) rfl ?_
        exact ⟨retTok (s := s) (x := ⟨5, 0, 2, 0, 2, 0⟩) HEE.out, (Only.refl _ _).alloc _⟩
    · have e := HR.out
      rw [HCC.out, if_neg (by rw [hs2]; simpa using g4), if_pos hs1] at e
      have HEE := Lib.hid e
      have cP : ∀ w, Calls Tryd.prog 30 #[.string (s.extract 1 n), .string ⟨#[61]⟩] w fun e w' => e = .returned (.bool false) ∧ w = w' := fun w => by
        have := ONE.out 61 w; rwa [decide_eq_false (show ¬ (1 < n ∧ bt s 1 = (61 : UInt8).toNat) from g4)] at this
      clear e HR hs1 hs2 g1 g4
      rcases g2 with rfl | rfl | rfl
      all_goals
        go_enter Tryd.func37, Tryd.ntmps37
        go_wp2_with fail
        refine (cP _).mono ?_
        rintro e w1 ⟨rfl, rfl⟩
        go_wp2_with fail
        refine bodyPost_ret (results_row_tmp rfl _ _ w.heap.size 35 _ (0, 0) _ _ rfl rfl (Blk.new w _ _) Tryd.underlying35 rfl (by kernel_rfl)) rfl ?_
        exact ⟨retTok (s := s) (x := ⟨5, 0, 1, 0, 1, 0⟩) HEE.out, (Only.refl _ _).alloc _⟩
  by_cases g3 : c = 46
  · have hs1 : sigB c = true := by rw [g3]; rfl
    have hs2 : ∀ d, twoB c d = (d == 46) := by rw [g3]; intro d; simp [twoB]
    by_cases g4 : 1 < n ∧ bt s 1 = 46
    · have e := HR.out
      rw [HCC.out, if_pos ⟨g4.1, by rw [hs2, g4.2]; rfl⟩] at e
      have HEE := Lib.hid e
      have cP : ∀ w, Calls Tryd.prog 30 #[.string (s.extract 1 n), .string ⟨#[46]⟩] w fun e w' => e = .returned (.bool true) ∧ w = w' := fun w => by
        have := ONE.out 46 w; rwa [decide_eq_true (show 1 < n ∧ bt s 1 = (46 : UInt8).toNat from g4)] at this
      have n2 : (2 : Int) ≤ (n : Int) := by omega
      clear e HR hs1 hs2 g1 g4
      subst g3
      go_enter Tryd.func37, Tryd.ntmps37
      go_wp2_with fail
      refine (cP _).mono ?_
      rintro e w1 ⟨rfl, rfl⟩
      go_wp2_with fail
      refine bodyPost_ret (results_row_tmp rfl _ _ w.heap.size 35 _ (0, 0) _ _ rfl rfl (Blk.new w _ _) Tryd.underlying35 rfl (by kernel_rfl)) rfl ?_
      exact ⟨retTok (s := s) (x := ⟨5, 0, 2, 0, 2, 0⟩) HEE.out, (Only.refl _ _).alloc _⟩
    · have e := HR.out
      rw [HCC.out, if_neg (by rw [hs2]; simpa using g4), if_pos hs1] at e
      have HEE := Lib.hid e
      have cP : ∀ w, Calls Tryd.prog 30 #[.string (s.extract 1 n), .string ⟨#[46]⟩] w fun e w' => e = .returned (.bool false) ∧ w = w' := fun w => by
        have := ONE.out 46 w; rwa [decide_eq_false (show ¬ (1 < n ∧ bt s 1 = (46 : UInt8).toNat) from g4)] at this
      clear e HR hs1 hs2 g1 g4
      subst g3
      go_enter Tryd.func37, Tryd.ntmps37
      go_wp2_with fail
      refine (cP _).mono ?_
      rintro e w1 ⟨rfl, rfl⟩
      go_wp2_with fail
      refine bodyPost_ret (results_row_tmp rfl _ _ w.heap.size 35 _ (0, 0) _ _ rfl rfl (Blk.new w _ _) Tryd.underlying35 rfl (by kernel_rfl)) rfl ?_
      exact ⟨retTok (s := s) (x := ⟨5, 0, 1, 0, 1, 0⟩) HEE.out, (Only.refl _ _).alloc _⟩
  · have e := HR.out
    rw [HCC.out, (sig_no g1 g2 g3).1, (sig_no g1 g2 g3).2, if_neg (by simp), if_neg (by simp)] at e
    have HEE := Lib.hid e
    have q1 : ((c : Int) == 43) = false := not_beq (by omega)
    have q2 : ((c : Int) == 45) = false := not_beq (by omega)
    have q3 : ((c : Int) == 42) = false := not_beq (by omega)
    have q4 : ((c : Int) == 47) = false := not_beq (by omega)
    have q5 : ((c : Int) == 38) = false := not_beq (by omega)
    have q6 : ((c : Int) == 126) = false := not_beq (by omega)
    have q7 : ((c : Int) == 61) = false := not_beq (by omega)
    have q8 : ((c : Int) == 35) = false := not_beq (by omega)
    have q9 : ((c : Int) == 44) = false := not_beq (by omega)
    have q10 : ((c : Int) == 59) = false := not_beq (by omega)
    have q11 : ((c : Int) == 40) = false := not_beq (by omega)
    have q12 : ((c : Int) == 41) = false := not_beq (by omega)
    have q13 : ((c : Int) == 91) = false := not_beq (by omega)
    have q14 : ((c : Int) == 93) = false := not_beq (by omega)
    have q15 : ((c : Int) == 123) = false := not_beq (by omega)
    have q16 : ((c : Int) == 125) = false := not_beq (by omega)
    have q17 : ((c : Int) == 94) = false := not_beq (by omega)
    have q18 : ((c : Int) == 124) = false := not_beq (by omega)
    have q19 : ((c : Int) == 60) = false := not_beq (by omega)
    have q20 : ((c : Int) == 62) = false := not_beq (by omega)
    have q21 : ((c : Int) == 58) = false := not_beq (by omega)
    have q22 : ((c : Int) == 46) = false := not_beq (by omega)
    clear e HR g1 g2 g3
    go_enter Tryd.func37, Tryd.ntmps37
    go_wp2_with fail
    refine bodyPost_ret (results_row_tmp rfl _ _ w.heap.size 35 _ (0, 0) _ _ rfl rfl (Blk.new w _ _) Tryd.underlying35 rfl (by kernel_rfl)) rfl ?_
    exact ⟨retNo (s := s) (e := 30) HEE.out, (Only.refl _ _).alloc _⟩
end Go.Proofs.YtbpdhpfcknaaiaaDoor
