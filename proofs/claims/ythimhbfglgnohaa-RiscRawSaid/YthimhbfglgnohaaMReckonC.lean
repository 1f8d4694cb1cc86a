/- The machine's instructions that reckon by a call. -/
import Derived.Test.YthimhbfglgnohaaMReckon
set_option linter.unusedSimpArgs false
set_option linter.unusedVariables false
namespace Go.Proofs.Ythimhbfglgnohaa
open Go.RowKit M
variable {Q : Nat → Prop}
attribute [local go_sem ↓] Go.wp_at_zero Go.wp_at_succ

set_option maxHeartbeats 1600000 in
theorem reckon_mov (mb wb : Nat) (ob : Option Nat) (code : List Nat) (F : Int) (u v : Bool) (a b c o : Nat) (m : Int) (h1 : -2147483648 ≤ m) (h2 : m ≤ 2147483647) (ha : a < 16) (hb : b < 16) (cv iv ov : Value) (s : St) (w : World) (hs : s.Ok) (hM : MAt Q w mb wb ob code s cv iv ov) {N : Nat} (hN : N < 4294967296)
    (cO : ∀ w', Only Nil w w' → Calls Try.prog 61 #[.pointer (some ⟨mb, 0, none⟩), ic F u v a b c o m] w' fun e w2 => e = .returned (.int .u32 N) ∧ Only Nil w' w2) (hO : o = 0) {B : Nat} (hB : s.R b = B) (hF : F = 0 ∨ F = 1) {rr : Nat} (hrr' : (if u then (if F = 0 then s.H else U m * 65536 % 4294967296) else N) = rr) :
    Calls Try.prog 45 #[.pointer (some ⟨mb, 0, none⟩), ic F u v a b c o m] w fun e w' => e = .returned (.bool true) ∧ Only (M.One mb) w w' ∧ MAt Q w' mb wb ob code (setR s a (rr)) cv iv ov := by
  have hB0 : B < 4294967296 := by rw [← hB]; exact hs.reg b hb
  have hrr : rr < 4294967296 := by rw [← hrr']; have := hs.high; (split; (split; exact this; exact Nat.mod_lt _ (by decide)); exact hN)
  have HRR := Lib.hid hrr'
  clear hrr'
  have HOP := Lib.hid hO
  clear hO
  have hMa := hM.quiet ((Only.refl Nil w).alloc (.cells (icz F u v a b c o m) 49))
  have cR := (hMa.1.cell (4 + b)).trans (icells_reg cv _ iv ov s hb)
  rw [hB] at cR
  have hB32 : B < 4294967296 := by rw [← hB]; exact hs.reg b hb
  have hlt := hM.1.lt
  have hlta := hMa.1.lt
  have i1 := insAt (w := w) (Only.refl Nil (w.alloc (.cells (icz F u v a b c o m) 49)))
  obtain ⟨x0, x1, x2, x3, x4, x5, x6, x7, x8⟩ := i1
  obtain ⟨wa, hwa⟩ : ∃ wa, w.alloc (.cells (icz F u v a b c o m) 49) = wa := ⟨_, rfl⟩
  have hoa : Only Nil w wa := hwa ▸ (Only.refl Nil w).alloc _
  rw [hwa] at cR hMa hlta x0 x1 x2 x3 x4 x5 x6 x7 x8
  obtain ⟨ib, hib⟩ : ∃ b, w.heap.size = b := ⟨_, rfl⟩
  have hneq : ib ≠ mb := by omega
  rw [hib] at x0 x1 x2 x3 x4 x5 x6 x7 x8
  have hI0 : RAt ib mb b B F u v a b c o m wa := ⟨x0, x1, x2, x3, x4, x5, x6, x7, cR⟩
  have b0 : (0 : Int) ≤ (b : Int) := Int.natCast_nonneg _
  have b1 : (b : Int) < 16 := by omega
  unfold ic at cO ⊢
  unfold icz at hwa
  go_enter Try.func45, Try.ntmps45
  go_wp2_with fail
  first
    | (go_region_held3 (fun w' => (w'.cell? ⟨ib, 0, none⟩ = some (.int .i64 F) ∧ w'.cell? ⟨ib, 1, none⟩ = some (.bool u) ∧ w'.cell? ⟨ib, 2, none⟩ = some (.bool v) ∧ w'.cell? ⟨ib, 3, none⟩ = some (.int .i64 a) ∧ w'.cell? ⟨ib, 4, none⟩ = some (.int .i64 b) ∧ w'.cell? ⟨ib, 5, none⟩ = some (.int .i64 c) ∧ w'.cell? ⟨ib, 6, none⟩ = some (.int .i64 o) ∧ w'.cell? ⟨ib, 7, none⟩ = some (.int .i32 m) ∧ w'.cell? ⟨mb, 4 + b, none⟩ = some (.int .u32 B)) ∧ Only Nil wa w') (first | (assumption) | (exact ⟨hI0.kept (Only.refl _ _).drew, (Only.refl _ _).drew⟩) | (go_split_ands; exact ⟨hI0.kept (Only.trans (by assumption) ho5 (fun _ _ h => h)), Only.trans (by assumption) ho5 (fun _ _ h => h)⟩)) (first | (go_at_call 61; refine (cO _ ?_).mono ?_; (go_split_ands; exact hoa.trans (by assumption) (fun _ _ h => h)); rintro e w' ⟨rfl, ho5⟩)))
    | fail "REGION"
  all_goals go_split_ands
  all_goals
    have ho6 : Only Nil wa w' := by assumption
    have ho6' : Only Nil w w' := hoa.trans ho6 (fun _ _ h => h)
    have hI6 := hI0.kept ho6
    have hM6 := hMa.quiet ho6
    have hlt6 := hM6.1.lt
    have hsz6 := ho6.size
    obtain ⟨wb', hwb⟩ : ∃ wx, w' = wx := ⟨_, rfl⟩
    subst hwb
    clear ho5 x0 x1 x2 x3 x4 x5 x6 x7 cR hMa hI0 ho6
    have HI := Lib.hid hI6
    unfold RAt at hI6
    obtain ⟨x0, x1, x2, x3, x4, x5, x6, x7, cR⟩ := hI6
    clear cR
    have eo := HOP.out
    subst eo
    have cX := fun (w2 : World) (ho : Only Nil w' w2) => moved_any mb N F hF u v a b c 0 m h1 h2 cv _ iv ov s w2 (hM6.1.kept ho (fun h => h)) (r := rr) HRR.out
    have HM := Lib.hid hM6
    clear hM6
    unfold ic at cX
    go_wp2_with fail
    try (go_quiet (fail); go_wp2_with fail)
    refine (cX _ (by (repeat with_reducible first | exact Only.refl _ _ | refine Only.drewN ?_ _ | refine Only.drew ?_))).mono ?_
    rintro e w7 ⟨rfl, ho7⟩
    have y3 := ho7.cell x3 (fun h => h)
    have hM7 := HM.out.quiet ho7
    have ho7' : Only (M.One mb) w w7 := (ho6'.trans ho7 (fun _ _ h => h)).mono (fun _ h => h.elim)
    have cS := set_any mb a rr cv _ iv ov s w7 hM7.1 ha hrr
    have HM7 := Lib.hid hM7
    have HO7 := Lib.hid ho7'
    clear hM7 HM cX x0 x1 x2 x3 x4 x5 x6 x7
    go_wp2_with fail
    try (go_quiet (fail); go_wp2_with fail)
    refine cS.mono ?_
    rintro e w3 ⟨rfl, hB3, ho3⟩
    have hM3 := HM7.out.own ho3 hB3 rfl rfl rfl
    clear cS hB3 HM7
    go_wp2_with fail
    go_ret
    exact ⟨rfl, HO7.out.trans ho3 (fun _ _ h => h), hM3⟩


set_option maxHeartbeats 1600000 in
theorem reckon_lsl (mb wb : Nat) (ob : Option Nat) (code : List Nat) (F : Int) (u v : Bool) (a b c o : Nat) (m : Int) (h1 : -2147483648 ≤ m) (h2 : m ≤ 2147483647) (ha : a < 16) (hb : b < 16) (cv iv ov : Value) (s : St) (w : World) (hs : s.Ok) (hM : MAt Q w mb wb ob code s cv iv ov) {N : Nat} (hN : N < 4294967296)
    (cO : ∀ w', Only Nil w w' → Calls Try.prog 61 #[.pointer (some ⟨mb, 0, none⟩), ic F u v a b c o m] w' fun e w2 => e = .returned (.int .u32 N) ∧ Only Nil w' w2) (hO : o = 1) {B : Nat} (hB : s.R b = B) :
    Calls Try.prog 45 #[.pointer (some ⟨mb, 0, none⟩), ic F u v a b c o m] w fun e w' => e = .returned (.bool true) ∧ Only (M.One mb) w w' ∧ MAt Q w' mb wb ob code (setR s a (U (lslV (S B) (K (S N))))) cv iv ov := by
  obtain ⟨rr, hrr'⟩ : ∃ rr, (U (lslV (S B) (K (S N)))) = rr := ⟨_, rfl⟩
  have hB0 : B < 4294967296 := by rw [← hB]; exact hs.reg b hb
  have hrr : rr < 4294967296 := by rw [← hrr']; exact U_lt _
  have HRR := Lib.hid hrr'
  have eb := w32_nat B hB0
  have en := w32_nat N hN
  obtain ⟨q, hq⟩ : ∃ q, lslV (S B) (K (S N)) = q := ⟨_, rfl⟩
  have cL := fun (w : World) => lsl_any (S B) (S N) w
  rw [hq] at cL hrr'
  have eq : q % 4294967296 = (rr : Int) := by rw [← hrr']; unfold U; omega
  obtain ⟨X, hX⟩ : ∃ X, S B = X := ⟨_, rfl⟩
  obtain ⟨Y, hY⟩ : ∃ Y, S N = Y := ⟨_, rfl⟩
  rw [hX] at cL eb
  rw [hY] at cL en
  clear hq hX hY hrr'
  have HOP := Lib.hid hO
  clear hO
  have hMa := hM.quiet ((Only.refl Nil w).alloc (.cells (icz F u v a b c o m) 49))
  have cR := (hMa.1.cell (4 + b)).trans (icells_reg cv _ iv ov s hb)
  rw [hB] at cR
  have hB32 : B < 4294967296 := by rw [← hB]; exact hs.reg b hb
  have hlt := hM.1.lt
  have hlta := hMa.1.lt
  have i1 := insAt (w := w) (Only.refl Nil (w.alloc (.cells (icz F u v a b c o m) 49)))
  obtain ⟨x0, x1, x2, x3, x4, x5, x6, x7, x8⟩ := i1
  obtain ⟨wa, hwa⟩ : ∃ wa, w.alloc (.cells (icz F u v a b c o m) 49) = wa := ⟨_, rfl⟩
  have hoa : Only Nil w wa := hwa ▸ (Only.refl Nil w).alloc _
  rw [hwa] at cR hMa hlta x0 x1 x2 x3 x4 x5 x6 x7 x8
  obtain ⟨ib, hib⟩ : ∃ b, w.heap.size = b := ⟨_, rfl⟩
  have hneq : ib ≠ mb := by omega
  rw [hib] at x0 x1 x2 x3 x4 x5 x6 x7 x8
  have hI0 : RAt ib mb b B F u v a b c o m wa := ⟨x0, x1, x2, x3, x4, x5, x6, x7, cR⟩
  have b0 : (0 : Int) ≤ (b : Int) := Int.natCast_nonneg _
  have b1 : (b : Int) < 16 := by omega
  unfold ic at cO ⊢
  unfold icz at hwa
  go_enter Try.func45, Try.ntmps45
  go_wp2_with fail
  first
    | (go_region_held3 (fun w' => (w'.cell? ⟨ib, 0, none⟩ = some (.int .i64 F) ∧ w'.cell? ⟨ib, 1, none⟩ = some (.bool u) ∧ w'.cell? ⟨ib, 2, none⟩ = some (.bool v) ∧ w'.cell? ⟨ib, 3, none⟩ = some (.int .i64 a) ∧ w'.cell? ⟨ib, 4, none⟩ = some (.int .i64 b) ∧ w'.cell? ⟨ib, 5, none⟩ = some (.int .i64 c) ∧ w'.cell? ⟨ib, 6, none⟩ = some (.int .i64 o) ∧ w'.cell? ⟨ib, 7, none⟩ = some (.int .i32 m) ∧ w'.cell? ⟨mb, 4 + b, none⟩ = some (.int .u32 B)) ∧ Only Nil wa w') (first | (assumption) | (exact ⟨hI0.kept (Only.refl _ _).drew, (Only.refl _ _).drew⟩) | (go_split_ands; exact ⟨hI0.kept (Only.trans (by assumption) ho5 (fun _ _ h => h)), Only.trans (by assumption) ho5 (fun _ _ h => h)⟩)) (first | (go_at_call 61; refine (cO _ ?_).mono ?_; (go_split_ands; exact hoa.trans (by assumption) (fun _ _ h => h)); rintro e w' ⟨rfl, ho5⟩)))
    | fail "REGION"
  all_goals go_split_ands
  all_goals
    have ho6 : Only Nil wa w' := by assumption
    have ho6' : Only Nil w w' := hoa.trans ho6 (fun _ _ h => h)
    have hI6 := hI0.kept ho6
    have hM6 := hMa.quiet ho6
    have hlt6 := hM6.1.lt
    have hsz6 := ho6.size
    obtain ⟨wb', hwb⟩ : ∃ wx, w' = wx := ⟨_, rfl⟩
    subst hwb
    clear ho5 x0 x1 x2 x3 x4 x5 x6 x7 cR hMa hI0 ho6
    have HI := Lib.hid hI6
    unfold RAt at hI6
    obtain ⟨x0, x1, x2, x3, x4, x5, x6, x7, cR⟩ := hI6
    clear cR
    have eo := HOP.out
    subst eo
    have cX := fun (w2 : World) (ho : Only Nil w' w2) => cL w2
    have HM := Lib.hid hM6
    clear hM6
    go_wp2_with fail
    try (go_quiet (fail); go_wp2_with fail)
    refine (cX _ (by (repeat with_reducible first | exact Only.refl _ _ | refine Only.drewN ?_ _ | refine Only.drew ?_))).mono ?_
    rintro e w7 ⟨rfl, hw7⟩
    subst hw7
    have y3 := x3
    have hM7 := HM.out
    have ho7' : Only (M.One mb) w w' := ho6'.mono (fun _ h => h.elim)
    have cS := set_any mb a rr cv _ iv ov s w' hM7.1 ha hrr
    have HM7 := Lib.hid hM7
    have HO7 := Lib.hid ho7'
    clear hM7 HM cX x0 x1 x2 x3 x4 x5 x6 x7
    go_wp2_with fail
    try (go_quiet (fail); go_wp2_with fail)
    refine cS.mono ?_
    rintro e w3 ⟨rfl, hB3, ho3⟩
    have hM3 := HM7.out.own ho3 hB3 rfl rfl rfl
    clear cS hB3 HM7
    go_wp2_with fail
    go_ret
    rw [HRR.out]
    exact ⟨rfl, HO7.out.trans ho3 (fun _ _ h => h), hM3⟩


set_option maxHeartbeats 1600000 in
theorem reckon_asr (mb wb : Nat) (ob : Option Nat) (code : List Nat) (F : Int) (u v : Bool) (a b c o : Nat) (m : Int) (h1 : -2147483648 ≤ m) (h2 : m ≤ 2147483647) (ha : a < 16) (hb : b < 16) (cv iv ov : Value) (s : St) (w : World) (hs : s.Ok) (hM : MAt Q w mb wb ob code s cv iv ov) {N : Nat} (hN : N < 4294967296)
    (cO : ∀ w', Only Nil w w' → Calls Try.prog 61 #[.pointer (some ⟨mb, 0, none⟩), ic F u v a b c o m] w' fun e w2 => e = .returned (.int .u32 N) ∧ Only Nil w' w2) (hO : o = 2) {B : Nat} (hB : s.R b = B) :
    Calls Try.prog 45 #[.pointer (some ⟨mb, 0, none⟩), ic F u v a b c o m] w fun e w' => e = .returned (.bool true) ∧ Only (M.One mb) w w' ∧ MAt Q w' mb wb ob code (setR s a (U (S B / 2 ^ K (S N)))) cv iv ov := by
  obtain ⟨rr, hrr'⟩ : ∃ rr, (U (S B / 2 ^ K (S N))) = rr := ⟨_, rfl⟩
  have hB0 : B < 4294967296 := by rw [← hB]; exact hs.reg b hb
  have hrr : rr < 4294967296 := by rw [← hrr']; exact U_lt _
  have HRR := Lib.hid hrr'
  have eb := w32_nat B hB0
  have en := w32_nat N hN
  obtain ⟨q, hq⟩ : ∃ q, S B / 2 ^ K (S N) = q := ⟨_, rfl⟩
  have cL := fun (w : World) => asr_any (S B) (S N) w
  rw [hq] at cL hrr'
  have eq : q % 4294967296 = (rr : Int) := by rw [← hrr']; unfold U; omega
  obtain ⟨X, hX⟩ : ∃ X, S B = X := ⟨_, rfl⟩
  obtain ⟨Y, hY⟩ : ∃ Y, S N = Y := ⟨_, rfl⟩
  rw [hX] at cL eb
  rw [hY] at cL en
  clear hq hX hY hrr'
  have HOP := Lib.hid hO
  clear hO
  have hMa := hM.quiet ((Only.refl Nil w).alloc (.cells (icz F u v a b c o m) 49))
  have cR := (hMa.1.cell (4 + b)).trans (icells_reg cv _ iv ov s hb)
  rw [hB] at cR
  have hB32 : B < 4294967296 := by rw [← hB]; exact hs.reg b hb
  have hlt := hM.1.lt
  have hlta := hMa.1.lt
  have i1 := insAt (w := w) (Only.refl Nil (w.alloc (.cells (icz F u v a b c o m) 49)))
  obtain ⟨x0, x1, x2, x3, x4, x5, x6, x7, x8⟩ := i1
  obtain ⟨wa, hwa⟩ : ∃ wa, w.alloc (.cells (icz F u v a b c o m) 49) = wa := ⟨_, rfl⟩
  have hoa : Only Nil w wa := hwa ▸ (Only.refl Nil w).alloc _
  rw [hwa] at cR hMa hlta x0 x1 x2 x3 x4 x5 x6 x7 x8
  obtain ⟨ib, hib⟩ : ∃ b, w.heap.size = b := ⟨_, rfl⟩
  have hneq : ib ≠ mb := by omega
  rw [hib] at x0 x1 x2 x3 x4 x5 x6 x7 x8
  have hI0 : RAt ib mb b B F u v a b c o m wa := ⟨x0, x1, x2, x3, x4, x5, x6, x7, cR⟩
  have b0 : (0 : Int) ≤ (b : Int) := Int.natCast_nonneg _
  have b1 : (b : Int) < 16 := by omega
  unfold ic at cO ⊢
  unfold icz at hwa
  go_enter Try.func45, Try.ntmps45
  go_wp2_with fail
  first
    | (go_region_held3 (fun w' => (w'.cell? ⟨ib, 0, none⟩ = some (.int .i64 F) ∧ w'.cell? ⟨ib, 1, none⟩ = some (.bool u) ∧ w'.cell? ⟨ib, 2, none⟩ = some (.bool v) ∧ w'.cell? ⟨ib, 3, none⟩ = some (.int .i64 a) ∧ w'.cell? ⟨ib, 4, none⟩ = some (.int .i64 b) ∧ w'.cell? ⟨ib, 5, none⟩ = some (.int .i64 c) ∧ w'.cell? ⟨ib, 6, none⟩ = some (.int .i64 o) ∧ w'.cell? ⟨ib, 7, none⟩ = some (.int .i32 m) ∧ w'.cell? ⟨mb, 4 + b, none⟩ = some (.int .u32 B)) ∧ Only Nil wa w') (first | (assumption) | (exact ⟨hI0.kept (Only.refl _ _).drew, (Only.refl _ _).drew⟩) | (go_split_ands; exact ⟨hI0.kept (Only.trans (by assumption) ho5 (fun _ _ h => h)), Only.trans (by assumption) ho5 (fun _ _ h => h)⟩)) (first | (go_at_call 61; refine (cO _ ?_).mono ?_; (go_split_ands; exact hoa.trans (by assumption) (fun _ _ h => h)); rintro e w' ⟨rfl, ho5⟩)))
    | fail "REGION"
  all_goals go_split_ands
  all_goals
    have ho6 : Only Nil wa w' := by assumption
    have ho6' : Only Nil w w' := hoa.trans ho6 (fun _ _ h => h)
    have hI6 := hI0.kept ho6
    have hM6 := hMa.quiet ho6
    have hlt6 := hM6.1.lt
    have hsz6 := ho6.size
    obtain ⟨wb', hwb⟩ : ∃ wx, w' = wx := ⟨_, rfl⟩
    subst hwb
    clear ho5 x0 x1 x2 x3 x4 x5 x6 x7 cR hMa hI0 ho6
    have HI := Lib.hid hI6
    unfold RAt at hI6
    obtain ⟨x0, x1, x2, x3, x4, x5, x6, x7, cR⟩ := hI6
    clear cR
    have eo := HOP.out
    subst eo
    have cX := fun (w2 : World) (ho : Only Nil w' w2) => cL w2
    have HM := Lib.hid hM6
    clear hM6
    go_wp2_with fail
    try (go_quiet (fail); go_wp2_with fail)
    refine (cX _ (by (repeat with_reducible first | exact Only.refl _ _ | refine Only.drewN ?_ _ | refine Only.drew ?_))).mono ?_
    rintro e w7 ⟨rfl, hw7⟩
    subst hw7
    have y3 := x3
    have hM7 := HM.out
    have ho7' : Only (M.One mb) w w' := ho6'.mono (fun _ h => h.elim)
    have cS := set_any mb a rr cv _ iv ov s w' hM7.1 ha hrr
    have HM7 := Lib.hid hM7
    have HO7 := Lib.hid ho7'
    clear hM7 HM cX x0 x1 x2 x3 x4 x5 x6 x7
    go_wp2_with fail
    try (go_quiet (fail); go_wp2_with fail)
    refine cS.mono ?_
    rintro e w3 ⟨rfl, hB3, ho3⟩
    have hM3 := HM7.out.own ho3 hB3 rfl rfl rfl
    clear cS hB3 HM7
    go_wp2_with fail
    go_ret
    rw [HRR.out]
    exact ⟨rfl, HO7.out.trans ho3 (fun _ _ h => h), hM3⟩


set_option maxHeartbeats 1600000 in
theorem reckon_ror (mb wb : Nat) (ob : Option Nat) (code : List Nat) (F : Int) (u v : Bool) (a b c o : Nat) (m : Int) (h1 : -2147483648 ≤ m) (h2 : m ≤ 2147483647) (ha : a < 16) (hb : b < 16) (cv iv ov : Value) (s : St) (w : World) (hs : s.Ok) (hM : MAt Q w mb wb ob code s cv iv ov) {N : Nat} (hN : N < 4294967296)
    (cO : ∀ w', Only Nil w w' → Calls Try.prog 61 #[.pointer (some ⟨mb, 0, none⟩), ic F u v a b c o m] w' fun e w2 => e = .returned (.int .u32 N) ∧ Only Nil w' w2) (hO : o = 3) {B : Nat} (hB : s.R b = B) :
    Calls Try.prog 45 #[.pointer (some ⟨mb, 0, none⟩), ic F u v a b c o m] w fun e w' => e = .returned (.bool true) ∧ Only (M.One mb) w w' ∧ MAt Q w' mb wb ob code (setR s a (U (S (rorN (U (S B)) (K (S N)))))) cv iv ov := by
  obtain ⟨rr, hrr'⟩ : ∃ rr, (U (S (rorN (U (S B)) (K (S N))))) = rr := ⟨_, rfl⟩
  have hB0 : B < 4294967296 := by rw [← hB]; exact hs.reg b hb
  have hrr : rr < 4294967296 := by rw [← hrr']; exact U_lt _
  have HRR := Lib.hid hrr'
  have eb := w32_nat B hB0
  have en := w32_nat N hN
  obtain ⟨q, hq⟩ : ∃ q, S (rorN (U (S B)) (K (S N))) = q := ⟨_, rfl⟩
  have cL := fun (w : World) => ror_any (S B) (S N) w
  rw [hq] at cL hrr'
  have eq : q % 4294967296 = (rr : Int) := by rw [← hrr']; unfold U; omega
  obtain ⟨X, hX⟩ : ∃ X, S B = X := ⟨_, rfl⟩
  obtain ⟨Y, hY⟩ : ∃ Y, S N = Y := ⟨_, rfl⟩
  rw [hX] at cL eb
  rw [hY] at cL en
  clear hq hX hY hrr'
  have HOP := Lib.hid hO
  clear hO
  have hMa := hM.quiet ((Only.refl Nil w).alloc (.cells (icz F u v a b c o m) 49))
  have cR := (hMa.1.cell (4 + b)).trans (icells_reg cv _ iv ov s hb)
  rw [hB] at cR
  have hB32 : B < 4294967296 := by rw [← hB]; exact hs.reg b hb
  have hlt := hM.1.lt
  have hlta := hMa.1.lt
  have i1 := insAt (w := w) (Only.refl Nil (w.alloc (.cells (icz F u v a b c o m) 49)))
  obtain ⟨x0, x1, x2, x3, x4, x5, x6, x7, x8⟩ := i1
  obtain ⟨wa, hwa⟩ : ∃ wa, w.alloc (.cells (icz F u v a b c o m) 49) = wa := ⟨_, rfl⟩
  have hoa : Only Nil w wa := hwa ▸ (Only.refl Nil w).alloc _
  rw [hwa] at cR hMa hlta x0 x1 x2 x3 x4 x5 x6 x7 x8
  obtain ⟨ib, hib⟩ : ∃ b, w.heap.size = b := ⟨_, rfl⟩
  have hneq : ib ≠ mb := by omega
  rw [hib] at x0 x1 x2 x3 x4 x5 x6 x7 x8
  have hI0 : RAt ib mb b B F u v a b c o m wa := ⟨x0, x1, x2, x3, x4, x5, x6, x7, cR⟩
  have b0 : (0 : Int) ≤ (b : Int) := Int.natCast_nonneg _
  have b1 : (b : Int) < 16 := by omega
  unfold ic at cO ⊢
  unfold icz at hwa
  go_enter Try.func45, Try.ntmps45
  go_wp2_with fail
  first
    | (go_region_held3 (fun w' => (w'.cell? ⟨ib, 0, none⟩ = some (.int .i64 F) ∧ w'.cell? ⟨ib, 1, none⟩ = some (.bool u) ∧ w'.cell? ⟨ib, 2, none⟩ = some (.bool v) ∧ w'.cell? ⟨ib, 3, none⟩ = some (.int .i64 a) ∧ w'.cell? ⟨ib, 4, none⟩ = some (.int .i64 b) ∧ w'.cell? ⟨ib, 5, none⟩ = some (.int .i64 c) ∧ w'.cell? ⟨ib, 6, none⟩ = some (.int .i64 o) ∧ w'.cell? ⟨ib, 7, none⟩ = some (.int .i32 m) ∧ w'.cell? ⟨mb, 4 + b, none⟩ = some (.int .u32 B)) ∧ Only Nil wa w') (first | (assumption) | (exact ⟨hI0.kept (Only.refl _ _).drew, (Only.refl _ _).drew⟩) | (go_split_ands; exact ⟨hI0.kept (Only.trans (by assumption) ho5 (fun _ _ h => h)), Only.trans (by assumption) ho5 (fun _ _ h => h)⟩)) (first | (go_at_call 61; refine (cO _ ?_).mono ?_; (go_split_ands; exact hoa.trans (by assumption) (fun _ _ h => h)); rintro e w' ⟨rfl, ho5⟩)))
    | fail "REGION"
  all_goals go_split_ands
  all_goals
    have ho6 : Only Nil wa w' := by assumption
    have ho6' : Only Nil w w' := hoa.trans ho6 (fun _ _ h => h)
    have hI6 := hI0.kept ho6
    have hM6 := hMa.quiet ho6
    have hlt6 := hM6.1.lt
    have hsz6 := ho6.size
    obtain ⟨wb', hwb⟩ : ∃ wx, w' = wx := ⟨_, rfl⟩
    subst hwb
    clear ho5 x0 x1 x2 x3 x4 x5 x6 x7 cR hMa hI0 ho6
    have HI := Lib.hid hI6
    unfold RAt at hI6
    obtain ⟨x0, x1, x2, x3, x4, x5, x6, x7, cR⟩ := hI6
    clear cR
    have eo := HOP.out
    subst eo
    have cX := fun (w2 : World) (ho : Only Nil w' w2) => cL w2
    have HM := Lib.hid hM6
    clear hM6
    go_wp2_with fail
    try (go_quiet (fail); go_wp2_with fail)
    refine (cX _ (by (repeat with_reducible first | exact Only.refl _ _ | refine Only.drewN ?_ _ | refine Only.drew ?_))).mono ?_
    rintro e w7 ⟨rfl, hw7⟩
    subst hw7
    have y3 := x3
    have hM7 := HM.out
    have ho7' : Only (M.One mb) w w' := ho6'.mono (fun _ h => h.elim)
    have cS := set_any mb a rr cv _ iv ov s w' hM7.1 ha hrr
    have HM7 := Lib.hid hM7
    have HO7 := Lib.hid ho7'
    clear hM7 HM cX x0 x1 x2 x3 x4 x5 x6 x7
    go_wp2_with fail
    try (go_quiet (fail); go_wp2_with fail)
    refine cS.mono ?_
    rintro e w3 ⟨rfl, hB3, ho3⟩
    have hM3 := HM7.out.own ho3 hB3 rfl rfl rfl
    clear cS hB3 HM7
    go_wp2_with fail
    go_ret
    rw [HRR.out]
    exact ⟨rfl, HO7.out.trans ho3 (fun _ _ h => h), hM3⟩


end Go.Proofs.Ythimhbfglgnohaa
