/- What may come where, both sides. -/
import Derived.Test.YtcbeibhmjokecaaDoorYExt
set_option linter.unusedSimpArgs false
set_option linter.unusedVariables false
namespace Go.Proofs.YtcbeibhmjokecaaDoor
open Go.RowKit M

set_option maxRecDepth 10000 in
set_option maxHeartbeats 1600000 in
theorem fitsP_any {U V X : Nat → Prop} {w0 : World} {mv : Value} {n : Nat} {R : Recs} {fv : ByteArray → Value} (hM : RMap X w0 mv n R fv) {va vb : Value} {la lb : List Ty} (ha : TyS U w0 va la) (hb : TyS V w0 vb lb) (f m f2 m2 : Int) (s s2 : ByteArray) (hs2 : s2.size ≤ maxLen) (w : World) (hw : Only Nil w0 w) :
    Calls Tryd.prog 21 #[.agg #[.int .i64 f, .int .i64 m, .string s, va], .agg #[.int .i64 f2, .int .i64 m2, .string s2, vb], mv] w fun e w' => e = .returned (.bool (fitsM R n (Ty.mk f m s la) (Ty.mk f2 m2 s2 lb))) ∧ Only Nil w w' := by
  have HS := Lib.hid (fun w' (h : Only Nil w0 w') => sameP_any (V := V) ha vb lb f m f2 m2 s s2 w' hb h)
  have HE := Lib.hid (fun w' (h : Only Nil w0 w') => extP_any hM s s2 hs2 w' h)
  have HW := Lib.hid hw
  obtain ⟨ao, cap, rfl⟩ := ha.slice
  obtain ⟨ao2, cap2, rfl⟩ := hb.slice
  obtain ⟨na, hna⟩ : ∃ x, la.length = x := ⟨_, rfl⟩
  obtain ⟨nb, hnb⟩ : ∃ x, lb.length = x := ⟨_, rfl⟩
  rw [hna, hnb] at HS ⊢
  obtain ⟨RB, hRB⟩ : ∃ r, fitsM R n (Ty.mk f m s la) (Ty.mk f2 m2 s2 lb) = r := ⟨_, rfl⟩
  rw [hRB]
  replace hRB : (if f = 1 ∨ f = 2 ∨ f = 3 ∨ f = 4 ∨ f = 7 ∨ f = 8 then sameB (Ty.mk f m s la) (Ty.mk f2 m2 s2 lb) else if f = 9 then (f2 == 5) || ((f2 == 9) && extM R s (n + 1) s2) else false) = RB := hRB
  obtain ⟨sr, hsr⟩ : ∃ r, sameB (Ty.mk f m s la) (Ty.mk f2 m2 s2 lb) = r := ⟨_, rfl⟩
  rw [hsr] at hRB HS
  obtain ⟨er, her⟩ : ∃ r, extM R s (n + 1) s2 = r := ⟨_, rfl⟩
  rw [her] at hRB HE
  clear hM ha hb hs2 hw hna hnb hsr her
  by_cases g1 : f = 1 ∨ f = 2 ∨ f = 3 ∨ f = 4 ∨ f = 7 ∨ f = 8
  · rw [if_pos g1] at hRB
    subst hRB
    rcases g1 with rfl | rfl | rfl | rfl | rfl | rfl
    all_goals
      skip
      go_enter Tryd.func21, Tryd.ntmps21
      go_wp2_with fail
      refine (HS.out _ ((HW.out.alloc _).alloc _)).mono ?_
      rintro e w3 ⟨rfl, ho3⟩
      have HO3 : Hid (Only Nil w w3) := Lib.hid (Nil.trans ((alloc0 w _).alloc _) ho3)
      clear ho3 HS HE
      go_wp2_with fail
      go_ret
      exact ⟨rfl, HO3.out⟩
  · rw [if_neg g1] at hRB
    have q1 : (f == 1) = false := by simp; omega
    have q2 : (f == 2) = false := by simp; omega
    have q3 : (f == 3) = false := by simp; omega
    have q4 : (f == 4) = false := by simp; omega
    have q7 : (f == 7) = false := by simp; omega
    have q8 : (f == 8) = false := by simp; omega
    by_cases g9 : f = 9
    · subst g9
      rw [if_pos rfl] at hRB
      clear q1 q2 q3 q4 q7 q8 g1 HS
      by_cases k5 : f2 = 5
      · subst k5
        simp only [beq_self_eq_true, Bool.true_or] at hRB
        subst hRB
        clear HE
        go_enter Tryd.func21, Tryd.ntmps21
        go_wp2
        go_ret
        exact ⟨rfl, ((Only.refl Nil w).alloc _).alloc _⟩
      · have c5 : (f2 == 5) = false := by simpa using k5
        rw [c5, Bool.false_or] at hRB
        by_cases k9 : f2 = 9
        · subst k9
          simp only [beq_self_eq_true, Bool.true_and] at hRB
          subst hRB
          clear k5 c5
          go_enter Tryd.func21, Tryd.ntmps21
          go_wp2_with fail
          refine (HE.out _ ((HW.out.alloc _).alloc _)).mono ?_
          rintro e w3 ⟨rfl, ho3⟩
          have HO3 : Hid (Only Nil w w3) := Lib.hid (Nil.trans ((alloc0 w _).alloc _) ho3)
          clear ho3 HE
          go_wp2_with fail
          go_ret
          exact ⟨rfl, HO3.out⟩
        · have c9 : (f2 == 9) = false := by simpa using k9
          rw [c9, Bool.false_and] at hRB
          subst hRB
          clear HE k5 k9
          go_enter Tryd.func21, Tryd.ntmps21
          go_wp2
          go_ret
          exact ⟨rfl, ((Only.refl Nil w).alloc _).alloc _⟩
    · rw [if_neg g9] at hRB
      have q9 : (f == 9) = false := by simpa using g9
      subst hRB
      clear HE HS g1 g9
      go_enter Tryd.func21, Tryd.ntmps21
      go_wp2
      go_ret
      exact ⟨rfl, ((Only.refl Nil w).alloc _).alloc _⟩
set_option maxRecDepth 10000 in
set_option maxHeartbeats 1600000 in
theorem fitsR_any {U V X : Nat → Prop} {w0 : World} {mv : Value} {n : Nat} {R : Recs} {fv : ByteArray → Value} (hM : RMap X w0 mv n R fv) {va vb : Value} {la lb : List Ty} (ha : TyS U w0 va la) (hb : TyS V w0 vb lb) (f m f2 m2 : Int) (s s2 : ByteArray) (hs2 : s2.size ≤ maxLen) (w : World) (hw : Only Nil w0 w) :
    Calls Tryd.prog 22 #[.agg #[.int .i64 f, .int .i64 m, .string s, va], .agg #[.int .i64 f2, .int .i64 m2, .string s2, vb], mv] w fun e w' => e = .returned (.bool (fitsM R n (Ty.mk f m s la) (Ty.mk f2 m2 s2 lb))) ∧ Only Nil w w' := by
  have HS := Lib.hid (fun w' (h : Only Nil w0 w') => sameR_any (V := V) ha vb lb f m f2 m2 s s2 w' hb h)
  have HE := Lib.hid (fun w' (h : Only Nil w0 w') => extR_any hM s s2 hs2 w' h)
  have HW := Lib.hid hw
  obtain ⟨ao, cap, rfl⟩ := ha.slice
  obtain ⟨ao2, cap2, rfl⟩ := hb.slice
  obtain ⟨na, hna⟩ : ∃ x, la.length = x := ⟨_, rfl⟩
  obtain ⟨nb, hnb⟩ : ∃ x, lb.length = x := ⟨_, rfl⟩
  rw [hna, hnb] at HS ⊢
  obtain ⟨RB, hRB⟩ : ∃ r, fitsM R n (Ty.mk f m s la) (Ty.mk f2 m2 s2 lb) = r := ⟨_, rfl⟩
  rw [hRB]
  replace hRB : (if f = 1 ∨ f = 2 ∨ f = 3 ∨ f = 4 ∨ f = 7 ∨ f = 8 then sameB (Ty.mk f m s la) (Ty.mk f2 m2 s2 lb) else if f = 9 then (f2 == 5) || ((f2 == 9) && extM R s (n + 1) s2) else false) = RB := hRB
  obtain ⟨sr, hsr⟩ : ∃ r, sameB (Ty.mk f m s la) (Ty.mk f2 m2 s2 lb) = r := ⟨_, rfl⟩
  rw [hsr] at hRB HS
  obtain ⟨er, her⟩ : ∃ r, extM R s (n + 1) s2 = r := ⟨_, rfl⟩
  rw [her] at hRB HE
  clear hM ha hb hs2 hw hna hnb hsr her
  by_cases g1 : f = 1 ∨ f = 2 ∨ f = 3 ∨ f = 4 ∨ f = 7 ∨ f = 8
  · rw [if_pos g1] at hRB
    subst hRB
    rcases g1 with rfl | rfl | rfl | rfl | rfl | rfl
    all_goals
      skip
      go_enter Tryd.func22, Tryd.ntmps22
      go_wp2_with fail
      refine (HS.out _ ((HW.out.alloc _).alloc _)).mono ?_
      rintro e w3 ⟨rfl, ho3⟩
      have HO3 : Hid (Only Nil w w3) := Lib.hid (Nil.trans ((alloc0 w _).alloc _) ho3)
      clear ho3 HS HE
      go_wp2_with fail
      go_ret
      exact ⟨rfl, HO3.out⟩
  · rw [if_neg g1] at hRB
    have q1 : (f == 1) = false := by simp; omega
    have q2 : (f == 2) = false := by simp; omega
    have q3 : (f == 3) = false := by simp; omega
    have q4 : (f == 4) = false := by simp; omega
    have q7 : (f == 7) = false := by simp; omega
    have q8 : (f == 8) = false := by simp; omega
    by_cases g9 : f = 9
    · subst g9
      rw [if_pos rfl] at hRB
      clear q1 q2 q3 q4 q7 q8 g1 HS
      by_cases k5 : f2 = 5
      · subst k5
        simp only [beq_self_eq_true, Bool.true_or] at hRB
        subst hRB
        clear HE
        go_enter Tryd.func22, Tryd.ntmps22
        go_wp2
        go_ret
        exact ⟨rfl, ((Only.refl Nil w).alloc _).alloc _⟩
      · have c5 : (f2 == 5) = false := by simpa using k5
        rw [c5, Bool.false_or] at hRB
        by_cases k9 : f2 = 9
        · subst k9
          simp only [beq_self_eq_true, Bool.true_and] at hRB
          subst hRB
          clear k5 c5
          go_enter Tryd.func22, Tryd.ntmps22
          go_wp2_with fail
          refine (HE.out _ ((HW.out.alloc _).alloc _)).mono ?_
          rintro e w3 ⟨rfl, ho3⟩
          have HO3 : Hid (Only Nil w w3) := Lib.hid (Nil.trans ((alloc0 w _).alloc _) ho3)
          clear ho3 HE
          go_wp2_with fail
          go_ret
          exact ⟨rfl, HO3.out⟩
        · have c9 : (f2 == 9) = false := by simpa using k9
          rw [c9, Bool.false_and] at hRB
          subst hRB
          clear HE k5 k9
          go_enter Tryd.func22, Tryd.ntmps22
          go_wp2
          go_ret
          exact ⟨rfl, ((Only.refl Nil w).alloc _).alloc _⟩
    · rw [if_neg g9] at hRB
      have q9 : (f == 9) = false := by simpa using g9
      subst hRB
      clear HE HS g1 g9
      go_enter Tryd.func22, Tryd.ntmps22
      go_wp2
      go_ret
      exact ⟨rfl, ((Only.refl Nil w).alloc _).alloc _⟩
end Go.Proofs.YtcbeibhmjokecaaDoor
