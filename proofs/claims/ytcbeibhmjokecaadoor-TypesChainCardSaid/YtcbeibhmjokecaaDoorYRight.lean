/- Which types are right: both sides. -/
import Derived.Test.YtcbeibhmjokecaaDoorProg
import Derived.Test.YtcbeibhmjokecaaDoorYSameM
import Derived.Test.YtcbeibhmjokecaaDoorQSame
set_option linter.unusedSimpArgs false
set_option linter.unusedVariables false
namespace Go.Proofs.YtcbeibhmjokecaaDoor
open Go.RowKit M
theorem oneR_ne : ∀ {l : List Ty}, l.length ≠ 1 → oneR l = false
  | [], _ => rfl
  | [_], h => absurd rfl h
  | _ :: _ :: _, _ => rfl
theorem nat_beq0 (n : Nat) : (n == 0) = ((n : Int) == 0) := by cases n <;> rfl

set_option maxRecDepth 10000 in
set_option maxHeartbeats 3200000 in
theorem rightP_any {U : Nat → Prop} {w0 : World} {va : Value} {la : List Ty} (ha : TyS U w0 va la) : ∀ (f n : Int) (s : ByteArray) (w : World), Only Nil w0 w →
    Calls Tryd.prog 27 #[.agg #[.int .i64 f, .int .i64 n, .string s, va]] w fun e w' => e = .returned (.bool (rightB (Ty.mk f n s la))) ∧ Only Nil w w' := by
  induction ha with
  | mk la ao cap off b ovs h0 h1 hb hn hs hc hr ih =>
    intro f n s w hw
    obtain ⟨na, hna⟩ : ∃ x, la.length = x := ⟨_, rfl⟩
    rw [hna] at h0 hn ⊢
    obtain ⟨RB, hRB⟩ : ∃ r, rightB (Ty.mk f n s la) = r := ⟨_, rfl⟩
    rw [hRB]
    unfold rightB at hRB
    rw [hna] at hRB
    by_cases g1 : f = 1 ∨ f = 2 ∨ f = 3 ∨ f = 4
    · rw [if_pos g1] at hRB
      clear ih hr hc h0 h1 hb hs hn hna hw
      rcases g1 with rfl | rfl | rfl | rfl
      ·
        obtain ⟨c1, h1⟩ : ∃ c, (n == 0) = c := ⟨_, rfl⟩
        obtain ⟨c2, h2⟩ : ∃ c, (s.toList == []) = c := ⟨_, rfl⟩
        obtain ⟨c3, h3⟩ : ∃ c, ((na : Int) == 0) = c := ⟨_, rfl⟩
        have h4 : (na == 0) = c3 := by rw [← h3]; exact nat_beq0 na
        rw [h1, h4, h2] at hRB
        cases c1 <;> cases c2 <;> cases c3 <;> (simp at hRB; subst hRB)
        all_goals
          skip
          go_enter Tryd.func27, Tryd.ntmps27
          go_wp2
          go_ret
          exact ⟨rfl, (Only.refl Nil w).alloc _⟩
      ·
        obtain ⟨c1, h1⟩ : ∃ c, (n == 0) = c := ⟨_, rfl⟩
        obtain ⟨c2, h2⟩ : ∃ c, (s.toList == []) = c := ⟨_, rfl⟩
        obtain ⟨c3, h3⟩ : ∃ c, ((na : Int) == 0) = c := ⟨_, rfl⟩
        have h4 : (na == 0) = c3 := by rw [← h3]; exact nat_beq0 na
        rw [h1, h4, h2] at hRB
        cases c1 <;> cases c2 <;> cases c3 <;> (simp at hRB; subst hRB)
        all_goals
          skip
          go_enter Tryd.func27, Tryd.ntmps27
          go_wp2
          go_ret
          exact ⟨rfl, (Only.refl Nil w).alloc _⟩
      ·
        obtain ⟨c1, h1⟩ : ∃ c, (n == 0) = c := ⟨_, rfl⟩
        obtain ⟨c2, h2⟩ : ∃ c, (s.toList == []) = c := ⟨_, rfl⟩
        obtain ⟨c3, h3⟩ : ∃ c, ((na : Int) == 0) = c := ⟨_, rfl⟩
        have h4 : (na == 0) = c3 := by rw [← h3]; exact nat_beq0 na
        rw [h1, h4, h2] at hRB
        cases c1 <;> cases c2 <;> cases c3 <;> (simp at hRB; subst hRB)
        all_goals
          skip
          go_enter Tryd.func27, Tryd.ntmps27
          go_wp2
          go_ret
          exact ⟨rfl, (Only.refl Nil w).alloc _⟩
      ·
        obtain ⟨c1, h1⟩ : ∃ c, (n == 0) = c := ⟨_, rfl⟩
        obtain ⟨c2, h2⟩ : ∃ c, (s.toList == []) = c := ⟨_, rfl⟩
        obtain ⟨c3, h3⟩ : ∃ c, ((na : Int) == 0) = c := ⟨_, rfl⟩
        have h4 : (na == 0) = c3 := by rw [← h3]; exact nat_beq0 na
        rw [h1, h4, h2] at hRB
        cases c1 <;> cases c2 <;> cases c3 <;> (simp at hRB; subst hRB)
        all_goals
          skip
          go_enter Tryd.func27, Tryd.ntmps27
          go_wp2
          go_ret
          exact ⟨rfl, (Only.refl Nil w).alloc _⟩
    · rw [if_neg g1] at hRB
      have q1 : (f == 1) = false := by simp; omega
      have q2 : (f == 2) = false := by simp; omega
      have q3 : (f == 3) = false := by simp; omega
      have q4 : (f == 4) = false := by simp; omega
      by_cases g7 : f = 7
      · subst g7
        rw [if_pos rfl] at hRB
        clear g1 q1 q2 q3 q4
        by_cases a1 : 1 ≤ n
        · by_cases a2 : n ≤ 1024
          · obtain ⟨c2, h2⟩ : ∃ c, (s.toList == []) = c := ⟨_, rfl⟩
            rw [decide_eq_true a1, decide_eq_true a2, h2, Bool.true_and, Bool.true_and] at hRB
            cases c2
            · rw [Bool.false_and] at hRB
              subst hRB
              clear ih hr hc h0 h1 hb hs hn hna hw
              skip
              go_enter Tryd.func27, Tryd.ntmps27
              go_wp2
              go_ret
              exact ⟨rfl, (Only.refl Nil w).alloc _⟩
            · rw [Bool.true_and] at hRB
              by_cases l1 : na = 1
              · obtain ⟨t, rfl⟩ : ∃ t, la = [t] := by
                  rw [l1] at hna
                  match la, hna with
                  | [t], _ => exact ⟨t, rfl⟩
                subst l1
                have e1 := h0 (by decide)
                subst e1
                have HR := Lib.hid hRB
                have C := fun w' (h' : Only Nil w0 w') => ih 0 t rfl t.form t.n t.name w' h'
                rw [Ty.eta] at C
                have e9 : rightB t = RB := hRB
                rw [e9] at C
                have HC := Lib.hid C
                have HW := Lib.hid hw
                have a1' := (hc 0 t rfl).kept hw (fun _ h => h)
                unfold tyCells at a1'
                rw [Nat.zero_mul, Nat.add_zero] at a1'
                have b0 := fun o : Obj => ((Only.refl Nil w).alloc o).cell a1'.get0 (fun h => h)
                have b1 := fun o : Obj => ((Only.refl Nil w).alloc o).cell (a1'.get 1 rfl) (fun h => h)
                have b2 := fun o : Obj => ((Only.refl Nil w).alloc o).cell (a1'.get 2 rfl) (fun h => h)
                have b3 := fun o : Obj => ((Only.refl Nil w).alloc o).cell (a1'.get 3 rfl) (fun h => h)
                clear ih hr hc h0 h1 hb hs hn hna hw hRB e9 C a1'
                go_enter Tryd.func27, Tryd.ntmps27
                go_wp2_with fail
                refine (HC.out _ (HW.out.alloc _)).mono ?_
                rintro e w3 ⟨rfl, ho3⟩
                have HO3 : Hid (Only Nil w w3) := Lib.hid (Nil.trans ((Only.refl Nil w).alloc _) ho3)
                clear HC ho3 b0 b1 b2 b3
                go_wp2_with fail
                go_ret
                exact ⟨rfl, HO3.out⟩
              · have l2 : ((na : Int) == 1) = false := by simp; omega
                have e9 : oneR la = false := oneR_ne (by rw [hna]; exact l1)
                rw [e9] at hRB
                subst hRB
                clear ih hr hc h0 h1 hb hs hn hna hw e9 l1
                skip
                go_enter Tryd.func27, Tryd.ntmps27
                go_wp2
                go_ret
                exact ⟨rfl, (Only.refl Nil w).alloc _⟩
          · have a3 : decide (n ≤ 1024) = false := by simp; omega
            have a4 : 1024 < n := by omega
            rw [a3, Bool.false_and, Bool.and_false] at hRB
            subst hRB
            clear ih hr hc h0 h1 hb hs hn hna hw a2
            skip
            go_enter Tryd.func27, Tryd.ntmps27
            go_wp2
            go_ret
            exact ⟨rfl, (Only.refl Nil w).alloc _⟩
        · have a3 : decide (1 ≤ n) = false := by simp; omega
          have a4 : n < 1 := by omega
          rw [a3, Bool.false_and] at hRB
          subst hRB
          clear ih hr hc h0 h1 hb hs hn hna hw a1
          skip
          go_enter Tryd.func27, Tryd.ntmps27
          go_wp2
          go_ret
          exact ⟨rfl, (Only.refl Nil w).alloc _⟩
      · rw [if_neg g7] at hRB
        have q7 : (f == 7) = false := by simp; omega
        by_cases g8 : f = 8 ∨ f = 9
        · rw [if_pos g8] at hRB
          clear ih hr hc h0 h1 hb hs hn hna hw g1 g7 q1 q2 q3 q4 q7
          rcases g8 with rfl | rfl
          ·
            obtain ⟨c1, h1⟩ : ∃ c, (n == 0) = c := ⟨_, rfl⟩
            obtain ⟨c2, h2⟩ : ∃ c, (s.toList == []) = c := ⟨_, rfl⟩
            obtain ⟨c3, h3⟩ : ∃ c, ((na : Int) == 0) = c := ⟨_, rfl⟩
            have h4 : (na == 0) = c3 := by rw [← h3]; exact nat_beq0 na
            rw [h1, h4] at hRB
            rw [bne, h2] at hRB
            cases c1 <;> cases c2 <;> cases c3 <;> (simp at hRB; subst hRB)
            all_goals
              skip
              go_enter Tryd.func27, Tryd.ntmps27
              go_wp2
              go_ret
              exact ⟨rfl, (Only.refl Nil w).alloc _⟩
          ·
            obtain ⟨c1, h1⟩ : ∃ c, (n == 0) = c := ⟨_, rfl⟩
            obtain ⟨c2, h2⟩ : ∃ c, (s.toList == []) = c := ⟨_, rfl⟩
            obtain ⟨c3, h3⟩ : ∃ c, ((na : Int) == 0) = c := ⟨_, rfl⟩
            have h4 : (na == 0) = c3 := by rw [← h3]; exact nat_beq0 na
            rw [h1, h4] at hRB
            rw [bne, h2] at hRB
            cases c1 <;> cases c2 <;> cases c3 <;> (simp at hRB; subst hRB)
            all_goals
              skip
              go_enter Tryd.func27, Tryd.ntmps27
              go_wp2
              go_ret
              exact ⟨rfl, (Only.refl Nil w).alloc _⟩
        · rw [if_neg g8] at hRB
          have q8 : (f == 8) = false := by simp; omega
          have q9 : (f == 9) = false := by simp; omega
          subst hRB
          clear ih hr hc h0 h1 hb hs hn hna hw g1 g7 g8
          skip
          go_enter Tryd.func27, Tryd.ntmps27
          go_wp2
          go_ret
          exact ⟨rfl, (Only.refl Nil w).alloc _⟩
end Go.Proofs.YtcbeibhmjokecaaDoor
