/- The machine's reckoning instructions, together. -/
import Derived.Test.YthimhbfglgnohaaMReckonD
set_option linter.unusedSimpArgs false
set_option linter.unusedVariables false
namespace Go.Proofs.Ythimhbfglgnohaa
open Go.RowKit M
variable {Q : Nat → Prop}
attribute [local go_sem ↓] Go.wp_at_zero Go.wp_at_succ

set_option maxHeartbeats 1600000 in
theorem reckon_bad (mb wb : Nat) (ob : Option Nat) (code : List Nat) (F : Int) (u v : Bool) (a b c o : Nat) (m : Int) (h1 : -2147483648 ≤ m) (h2 : m ≤ 2147483647) (ha : a < 16) (hb : b < 16) (cv iv ov : Value) (s : St) (w : World) (hs : s.Ok) (hM : MAt Q w mb wb ob code s cv iv ov) {N : Nat} (hN : N < 4294967296)
    (cO : ∀ w', Only Nil w w' → Calls Try.prog 61 #[.pointer (some ⟨mb, 0, none⟩), ic F u v a b c o m] w' fun e w2 => e = .returned (.int .u32 N) ∧ Only Nil w' w2) (hO : o = 12 ∨ o = 13 ∨ o = 14 ∨ o = 15) {B : Nat} (hB : s.R b = B) :
    Calls Try.prog 45 #[.pointer (some ⟨mb, 0, none⟩), ic F u v a b c o m] w fun e w' => e = .returned (.bool false) ∧ Only Nil w w' := by
  have HOP := Lib.hid hO
  clear hO
  have hMa := hM.quiet ((Only.refl Nil w).alloc (.cells (icz F u v a b c o m) 49))
  have cR := (hMa.1.cell (4 + b)).trans (icells_reg cv _ iv ov s hb)
  rw [hB] at cR
  have hB32 : B < 4294967296 := by rw [← hB]; exact hs.reg b hb
  have hlt := hM.1.lt
  have hlta := hMa.1.lt
  have i1 := insAt (w := w) (Only.refl Nil (w.alloc (.cells (icz F u v a b c o m) 49)))
  obtain ⟨x0, x1, x2, x3, x4, x5, x6, x7, x8⟩ := i1
  obtain ⟨wa, hwa⟩ : ∃ wa, w.alloc (.cells (icz F u v a b c o m) 49) = wa := ⟨_, rfl⟩
  have hoa : Only Nil w wa := hwa ▸ (Only.refl Nil w).alloc _
  rw [hwa] at cR hMa hlta x0 x1 x2 x3 x4 x5 x6 x7 x8
  obtain ⟨ib, hib⟩ : ∃ b, w.heap.size = b := ⟨_, rfl⟩
  have hneq : ib ≠ mb := by omega
  rw [hib] at x0 x1 x2 x3 x4 x5 x6 x7 x8
  have hI0 : RAt ib mb b B F u v a b c o m wa := ⟨x0, x1, x2, x3, x4, x5, x6, x7, cR⟩
  have b0 : (0 : Int) ≤ (b : Int) := Int.natCast_nonneg _
  have b1 : (b : Int) < 16 := by omega
  unfold ic at cO ⊢
  unfold icz at hwa
  go_enter Try.func45, Try.ntmps45
  go_wp2_with fail
  first
    | (go_region_held3 (fun w' => (w'.cell? ⟨ib, 0, none⟩ = some (.int .i64 F) ∧ w'.cell? ⟨ib, 1, none⟩ = some (.bool u) ∧ w'.cell? ⟨ib, 2, none⟩ = some (.bool v) ∧ w'.cell? ⟨ib, 3, none⟩ = some (.int .i64 a) ∧ w'.cell? ⟨ib, 4, none⟩ = some (.int .i64 b) ∧ w'.cell? ⟨ib, 5, none⟩ = some (.int .i64 c) ∧ w'.cell? ⟨ib, 6, none⟩ = some (.int .i64 o) ∧ w'.cell? ⟨ib, 7, none⟩ = some (.int .i32 m) ∧ w'.cell? ⟨mb, 4 + b, none⟩ = some (.int .u32 B)) ∧ Only Nil wa w') (first | (assumption) | (exact ⟨hI0.kept (Only.refl _ _).drew, (Only.refl _ _).drew⟩) | (go_split_ands; exact ⟨hI0.kept (Only.trans (by assumption) ho5 (fun _ _ h => h)), Only.trans (by assumption) ho5 (fun _ _ h => h)⟩)) (first | (go_at_call 61; refine (cO _ ?_).mono ?_; (go_split_ands; exact hoa.trans (by assumption) (fun _ _ h => h)); rintro e w' ⟨rfl, ho5⟩)))
    | fail "REGION"
  all_goals go_split_ands
  all_goals
    have ho6 : Only Nil wa w' := by assumption
    have ho6' : Only Nil w w' := hoa.trans ho6 (fun _ _ h => h)
    have hI6 := hI0.kept ho6
    have hM6 := hMa.quiet ho6
    have hlt6 := hM6.1.lt
    have hsz6 := ho6.size
    obtain ⟨wb', hwb⟩ : ∃ wx, w' = wx := ⟨_, rfl⟩
    subst hwb
    clear ho5 x0 x1 x2 x3 x4 x5 x6 x7 cR hMa hI0 ho6
    have HI := Lib.hid hI6
    unfold RAt at hI6
    obtain ⟨x0, x1, x2, x3, x4, x5, x6, x7, cR⟩ := hI6
    clear cR
    rcases HOP.out with rfl | rfl | rfl | rfl
    all_goals
      have HO := Lib.hid ho6'
      clear hM6
      go_wp2_with fail
      go_ret
      exact ⟨rfl, HO.out⟩


theorem lsl_eq (B N : Nat) (hB : B < 4294967296) : U (lslV (S B) (K (S N))) = U (wrap32 ((B * 2 ^ kNat (S N) % 4294967296 : Nat) : Int)) := by
  unfold lslV
  rw [U_eq (S B), U_S B hB]
  congr 1
theorem ror_eq' (B N : Nat) (hB : B < 4294967296) : U (S (rorN (U (S B)) (K (S N)))) = rorN B (kNat (S N)) := by
  rw [U_S B hB, U_S _ (rorN_lt B _ hB)]
  rfl
/-- What a reckoning instruction does. -/
theorem reckon_of (mb wb : Nat) (ob : Option Nat) (code : List Nat) (F : Int) (u v : Bool) (a b c o : Nat) (m : Int) (h1 : -2147483648 ≤ m) (h2 : m ≤ 2147483647) (ha : a < 16) (hb : b < 16) (cv iv ov : Value) (s : St) (w : World) (hs : s.Ok) (hM : MAt Q w mb wb ob code s cv iv ov) (hF : F = 0 ∨ F = 1) (ho : o ≤ 15) {N : Nat} (hN : N < 4294967296)
    (cO : ∀ w', Only Nil w w' → Calls Try.prog 61 #[.pointer (some ⟨mb, 0, none⟩), ic F u v a b c o m] w' fun e w2 => e = .returned (.int .u32 N) ∧ Only Nil w' w2) {B : Nat} (hB : s.R b = B) (hn : opnd s ⟨F, u, v, a, b, c, o, m⟩ = N) :
    Calls Try.prog 45 #[.pointer (some ⟨mb, 0, none⟩), ic F u v a b c o m] w fun e w' => match reckon s ⟨F, u, v, a, b, c, o, m⟩ with
      | some s' => e = .returned (.bool true) ∧ Only (M.One mb) w w' ∧ MAt Q w' mb wb ob code s' cv iv ov
      | none => e = .returned (.bool false) ∧ Only Nil w w' := by
  unfold reckon
  simp only [Int.toNat_natCast, hn, hB]
  unfold alu
  rcases (show o = 0 ∨ o = 1 ∨ o = 2 ∨ o = 3 ∨ o = 4 ∨ o = 5 ∨ o = 6 ∨ o = 7 ∨ o = 8 ∨ o = 9 ∨ o = 10 ∨ o = 11 ∨ 12 ≤ o by omega) with rfl | rfl | rfl | rfl | rfl | rfl | rfl | rfl | rfl | rfl | rfl | rfl | h12
  · exact (reckon_mov mb wb ob code F u v a b c 0 m h1 h2 ha hb cv iv ov s w hs hM hN cO rfl hB hF rfl).mono fun e w' h => h
  · exact (reckon_lsl mb wb ob code F u v a b c 1 m h1 h2 ha hb cv iv ov s w hs hM hN cO rfl hB).mono fun e w' h => by rw [lsl_eq B N (by rw [← hB]; exact hs.reg b hb)] at h; exact h
  · exact (reckon_asr mb wb ob code F u v a b c 2 m h1 h2 ha hb cv iv ov s w hs hM hN cO rfl hB).mono fun e w' h => h
  · exact (reckon_ror mb wb ob code F u v a b c 3 m h1 h2 ha hb cv iv ov s w hs hM hN cO rfl hB).mono fun e w' h => by rw [ror_eq' B N (by rw [← hB]; exact hs.reg b hb)] at h; exact h
  · exact (reckon_and mb wb ob code F u v a b c 4 m h1 h2 ha hb cv iv ov s w hs hM hN cO rfl hB).mono fun e w' h => h
  · exact (reckon_ann mb wb ob code F u v a b c 5 m h1 h2 ha hb cv iv ov s w hs hM hN cO rfl hB).mono fun e w' h => h
  · exact (reckon_ior mb wb ob code F u v a b c 6 m h1 h2 ha hb cv iv ov s w hs hM hN cO rfl hB).mono fun e w' h => h
  · exact (reckon_xor mb wb ob code F u v a b c 7 m h1 h2 ha hb cv iv ov s w hs hM hN cO rfl hB).mono fun e w' h => h
  · exact (reckon_add mb wb ob code F u v a b c 8 m h1 h2 ha hb cv iv ov s w hs hM hN cO rfl hB rfl rfl rfl).mono fun e w' h => h
  · exact (reckon_sub mb wb ob code F u v a b c 9 m h1 h2 ha hb cv iv ov s w hs hM hN cO rfl hB rfl rfl rfl).mono fun e w' h => h
  · cases u
    · exact (reckon_muls mb wb ob code F false v a b c 10 m h1 h2 ha hb cv iv ov s w hs hM hN cO rfl hB rfl rfl rfl).mono fun e w' h => h
    · exact (reckon_mulu mb wb ob code F true v a b c 10 m h1 h2 ha hb cv iv ov s w hs hM hN cO rfl hB rfl rfl rfl).mono fun e w' h => h
  · by_cases hd : S N < 1
    · refine (reckon_no mb wb ob code F u v a b c 11 m h1 h2 ha hb cv iv ov s w hs hM hN cO rfl hB hd).mono fun e w' h => ?_
      simp [hd]
      exact h
    · refine (reckon_div mb wb ob code F u v a b c 11 m h1 h2 ha hb cv iv ov s w hs hM hN cO rfl hB (by omega) rfl rfl).mono fun e w' h => ?_
      simp [hd]
      exact h
  · refine (reckon_bad mb wb ob code F u v a b c o m h1 h2 ha hb cv iv ov s w hs hM hN cO (by omega) hB).mono fun e w' h => ?_
    have e0 : ¬ ((o : Int) = 0) := by omega
    have e1 : ¬ ((o : Int) = 1) := by omega
    have e2 : ¬ ((o : Int) = 2) := by omega
    have e3 : ¬ ((o : Int) = 3) := by omega
    have e4 : ¬ ((o : Int) = 4) := by omega
    have e5 : ¬ ((o : Int) = 5) := by omega
    have e6 : ¬ ((o : Int) = 6) := by omega
    have e7 : ¬ ((o : Int) = 7) := by omega
    have e8 : ¬ ((o : Int) = 8) := by omega
    have e9 : ¬ ((o : Int) = 9) := by omega
    have e10 : ¬ ((o : Int) = 10) := by omega
    have e11 : ¬ ((o : Int) = 11) := by omega
    dsimp only
    rw [if_neg e0, if_neg e1, if_neg e2, if_neg e3, if_neg e4, if_neg e5, if_neg e6, if_neg e7, if_neg e8, if_neg e9, if_neg e10, if_neg e11]
    exact h
end Go.Proofs.Ythimhbfglgnohaa
