/- The machine's sums, differences, products, quotients. -/
import Derived.Test.YthimhbfglgnohaaMReckonC
set_option linter.unusedSimpArgs false
set_option linter.unusedVariables false
namespace Go.Proofs.Ythimhbfglgnohaa
open Go.RowKit M
variable {Q : Nat → Prop}
attribute [local go_sem ↓] Go.wp_at_zero Go.wp_at_succ

set_option maxHeartbeats 1600000 in
theorem reckon_add (mb wb : Nat) (ob : Option Nat) (code : List Nat) (F : Int) (u v : Bool) (a b c o : Nat) (m : Int) (h1 : -2147483648 ≤ m) (h2 : m ≤ 2147483647) (ha : a < 16) (hb : b < 16) (cv iv ov : Value) (s : St) (w : World) (hs : s.Ok) (hM : MAt Q w mb wb ob code s cv iv ov) {N : Nat} (hN : N < 4294967296)
    (cO : ∀ w', Only Nil w w' → Calls Try.prog 61 #[.pointer (some ⟨mb, 0, none⟩), ic F u v a b c o m] w' fun e w2 => e = .returned (.int .u32 N) ∧ Only Nil w' w2) (hO : o = 8) {B : Nat} (hB : s.R b = B) {k : Nat} (hk : (if u && s.c then 1 else 0 : Nat) = k) {rr : Nat} (hrr' : (B + N + k) % 4294967296 = rr) {s2 : St} (hs2 : { s with c := decide (4294967296 ≤ B + N + k), v := decide (S B + S N + k ≠ wrap32 (S B + S N + k)) } = s2) :
    Calls Try.prog 45 #[.pointer (some ⟨mb, 0, none⟩), ic F u v a b c o m] w fun e w' => e = .returned (.bool true) ∧ Only (M.One mb) w w' ∧ MAt Q w' mb wb ob code (setR s2 a (rr)) cv iv ov := by
  have hB0 : B < 4294967296 := by rw [← hB]; exact hs.reg b hb
  have hrr : rr < 4294967296 := by rw [← hrr']; exact Nat.mod_lt _ (by decide)
  have HS2 := Lib.hid hs2
  have HOP := Lib.hid hO
  clear hO
  have hMa := hM.quiet ((Only.refl Nil w).alloc (.cells (icz F u v a b c o m) 49))
  have cR := (hMa.1.cell (4 + b)).trans (icells_reg cv _ iv ov s hb)
  rw [hB] at cR
  have hB32 : B < 4294967296 := by rw [← hB]; exact hs.reg b hb
  have hlt := hM.1.lt
  have hlta := hMa.1.lt
  have i1 := insAt (w := w) (Only.refl Nil (w.alloc (.cells (icz F u v a b c o m) 49)))
  obtain ⟨x0, x1, x2, x3, x4, x5, x6, x7, x8⟩ := i1
  obtain ⟨wa, hwa⟩ : ∃ wa, w.alloc (.cells (icz F u v a b c o m) 49) = wa := ⟨_, rfl⟩
  have hoa : Only Nil w wa := hwa ▸ (Only.refl Nil w).alloc _
  rw [hwa] at cR hMa hlta x0 x1 x2 x3 x4 x5 x6 x7 x8
  obtain ⟨ib, hib⟩ : ∃ b, w.heap.size = b := ⟨_, rfl⟩
  have hneq : ib ≠ mb := by omega
  rw [hib] at x0 x1 x2 x3 x4 x5 x6 x7 x8
  have hI0 : RAt ib mb b B F u v a b c o m wa := ⟨x0, x1, x2, x3, x4, x5, x6, x7, cR⟩
  have b0 : (0 : Int) ≤ (b : Int) := Int.natCast_nonneg _
  have b1 : (b : Int) < 16 := by omega
  unfold ic at cO ⊢
  unfold icz at hwa
  go_enter Try.func45, Try.ntmps45
  go_wp2_with fail
  first
    | (go_region_held3 (fun w' => (w'.cell? ⟨ib, 0, none⟩ = some (.int .i64 F) ∧ w'.cell? ⟨ib, 1, none⟩ = some (.bool u) ∧ w'.cell? ⟨ib, 2, none⟩ = some (.bool v) ∧ w'.cell? ⟨ib, 3, none⟩ = some (.int .i64 a) ∧ w'.cell? ⟨ib, 4, none⟩ = some (.int .i64 b) ∧ w'.cell? ⟨ib, 5, none⟩ = some (.int .i64 c) ∧ w'.cell? ⟨ib, 6, none⟩ = some (.int .i64 o) ∧ w'.cell? ⟨ib, 7, none⟩ = some (.int .i32 m) ∧ w'.cell? ⟨mb, 4 + b, none⟩ = some (.int .u32 B)) ∧ Only Nil wa w') (first | (assumption) | (exact ⟨hI0.kept (Only.refl _ _).drew, (Only.refl _ _).drew⟩) | (go_split_ands; exact ⟨hI0.kept (Only.trans (by assumption) ho5 (fun _ _ h => h)), Only.trans (by assumption) ho5 (fun _ _ h => h)⟩)) (first | (go_at_call 61; refine (cO _ ?_).mono ?_; (go_split_ands; exact hoa.trans (by assumption) (fun _ _ h => h)); rintro e w' ⟨rfl, ho5⟩)))
    | fail "REGION"
  all_goals go_split_ands
  all_goals
    have ho6 : Only Nil wa w' := by assumption
    have ho6' : Only Nil w w' := hoa.trans ho6 (fun _ _ h => h)
    have hI6 := hI0.kept ho6
    have hM6 := hMa.quiet ho6
    have hlt6 := hM6.1.lt
    have hsz6 := ho6.size
    obtain ⟨wb', hwb⟩ : ∃ wx, w' = wx := ⟨_, rfl⟩
    subst hwb
    clear ho5 x0 x1 x2 x3 x4 x5 x6 x7 cR hMa hI0 ho6
    have HI := Lib.hid hI6
    unfold RAt at hI6
    obtain ⟨x0, x1, x2, x3, x4, x5, x6, x7, cR⟩ := hI6
    clear cR
    have eo := HOP.out
    subst eo
    have cX := fun (w2 : World) (ho : Only Nil w' w2) => sum_any mb B N u cv _ iv ov s w2 (hM6.1.kept ho (fun h => h)) hB0 hN hk
    rw [hrr', hs2] at cX
    have HM := Lib.hid hM6
    clear hM6
    go_wp2_with fail
    try (go_quiet (fail); go_wp2_with fail)
    refine (cX _ (by (repeat with_reducible first | exact Only.refl _ _ | refine Only.drewN ?_ _ | refine Only.drew ?_))).mono ?_
    rintro e w7 ⟨rfl, hB7, ho7⟩
    have y3 := ho7.cell x3 (fun h => hneq h)
    have hM7 := HM.out.own (s' := s2) ho7 hB7 (by rw [← HS2.out]) (by rw [← HS2.out]) (by rw [← HS2.out])
    have ho7' : Only (M.One mb) w w7 := (ho6'.mono (T := M.One mb) (fun _ h => h.elim)).trans ho7 (fun _ _ h => h)
    have cS := set_any mb a rr cv _ iv ov s2 w7 hM7.1 ha hrr
    have HM7 := Lib.hid hM7
    have HO7 := Lib.hid ho7'
    clear hM7 HM cX x0 x1 x2 x3 x4 x5 x6 x7
    go_wp2_with fail
    try (go_quiet (fail); go_wp2_with fail)
    refine cS.mono ?_
    rintro e w3 ⟨rfl, hB3, ho3⟩
    have hM3 := HM7.out.own ho3 hB3 rfl rfl rfl
    clear cS hB3 HM7
    go_wp2_with fail
    go_ret
    exact ⟨rfl, HO7.out.trans ho3 (fun _ _ h => h), hM3⟩


set_option maxHeartbeats 1600000 in
theorem reckon_sub (mb wb : Nat) (ob : Option Nat) (code : List Nat) (F : Int) (u v : Bool) (a b c o : Nat) (m : Int) (h1 : -2147483648 ≤ m) (h2 : m ≤ 2147483647) (ha : a < 16) (hb : b < 16) (cv iv ov : Value) (s : St) (w : World) (hs : s.Ok) (hM : MAt Q w mb wb ob code s cv iv ov) {N : Nat} (hN : N < 4294967296)
    (cO : ∀ w', Only Nil w w' → Calls Try.prog 61 #[.pointer (some ⟨mb, 0, none⟩), ic F u v a b c o m] w' fun e w2 => e = .returned (.int .u32 N) ∧ Only Nil w' w2) (hO : o = 9) {B : Nat} (hB : s.R b = B) {k : Nat} (hk : (if u && s.c then 1 else 0 : Nat) = k) {rr : Nat} (hrr' : U ((B : Int) - N - k) = rr) {s2 : St} (hs2 : { s with c := decide (B < N + k), v := decide (S B - S N - k ≠ wrap32 (S B - S N - k)) } = s2) :
    Calls Try.prog 45 #[.pointer (some ⟨mb, 0, none⟩), ic F u v a b c o m] w fun e w' => e = .returned (.bool true) ∧ Only (M.One mb) w w' ∧ MAt Q w' mb wb ob code (setR s2 a (rr)) cv iv ov := by
  have hB0 : B < 4294967296 := by rw [← hB]; exact hs.reg b hb
  have hrr : rr < 4294967296 := by rw [← hrr']; exact U_lt _
  have HS2 := Lib.hid hs2
  have HOP := Lib.hid hO
  clear hO
  have hMa := hM.quiet ((Only.refl Nil w).alloc (.cells (icz F u v a b c o m) 49))
  have cR := (hMa.1.cell (4 + b)).trans (icells_reg cv _ iv ov s hb)
  rw [hB] at cR
  have hB32 : B < 4294967296 := by rw [← hB]; exact hs.reg b hb
  have hlt := hM.1.lt
  have hlta := hMa.1.lt
  have i1 := insAt (w := w) (Only.refl Nil (w.alloc (.cells (icz F u v a b c o m) 49)))
  obtain ⟨x0, x1, x2, x3, x4, x5, x6, x7, x8⟩ := i1
  obtain ⟨wa, hwa⟩ : ∃ wa, w.alloc (.cells (icz F u v a b c o m) 49) = wa := ⟨_, rfl⟩
  have hoa : Only Nil w wa := hwa ▸ (Only.refl Nil w).alloc _
  rw [hwa] at cR hMa hlta x0 x1 x2 x3 x4 x5 x6 x7 x8
  obtain ⟨ib, hib⟩ : ∃ b, w.heap.size = b := ⟨_, rfl⟩
  have hneq : ib ≠ mb := by omega
  rw [hib] at x0 x1 x2 x3 x4 x5 x6 x7 x8
  have hI0 : RAt ib mb b B F u v a b c o m wa := ⟨x0, x1, x2, x3, x4, x5, x6, x7, cR⟩
  have b0 : (0 : Int) ≤ (b : Int) := Int.natCast_nonneg _
  have b1 : (b : Int) < 16 := by omega
  unfold ic at cO ⊢
  unfold icz at hwa
  go_enter Try.func45, Try.ntmps45
  go_wp2_with fail
  first
    | (go_region_held3 (fun w' => (w'.cell? ⟨ib, 0, none⟩ = some (.int .i64 F) ∧ w'.cell? ⟨ib, 1, none⟩ = some (.bool u) ∧ w'.cell? ⟨ib, 2, none⟩ = some (.bool v) ∧ w'.cell? ⟨ib, 3, none⟩ = some (.int .i64 a) ∧ w'.cell? ⟨ib, 4, none⟩ = some (.int .i64 b) ∧ w'.cell? ⟨ib, 5, none⟩ = some (.int .i64 c) ∧ w'.cell? ⟨ib, 6, none⟩ = some (.int .i64 o) ∧ w'.cell? ⟨ib, 7, none⟩ = some (.int .i32 m) ∧ w'.cell? ⟨mb, 4 + b, none⟩ = some (.int .u32 B)) ∧ Only Nil wa w') (first | (assumption) | (exact ⟨hI0.kept (Only.refl _ _).drew, (Only.refl _ _).drew⟩) | (go_split_ands; exact ⟨hI0.kept (Only.trans (by assumption) ho5 (fun _ _ h => h)), Only.trans (by assumption) ho5 (fun _ _ h => h)⟩)) (first | (go_at_call 61; refine (cO _ ?_).mono ?_; (go_split_ands; exact hoa.trans (by assumption) (fun _ _ h => h)); rintro e w' ⟨rfl, ho5⟩)))
    | fail "REGION"
  all_goals go_split_ands
  all_goals
    have ho6 : Only Nil wa w' := by assumption
    have ho6' : Only Nil w w' := hoa.trans ho6 (fun _ _ h => h)
    have hI6 := hI0.kept ho6
    have hM6 := hMa.quiet ho6
    have hlt6 := hM6.1.lt
    have hsz6 := ho6.size
    obtain ⟨wb', hwb⟩ : ∃ wx, w' = wx := ⟨_, rfl⟩
    subst hwb
    clear ho5 x0 x1 x2 x3 x4 x5 x6 x7 cR hMa hI0 ho6
    have HI := Lib.hid hI6
    unfold RAt at hI6
    obtain ⟨x0, x1, x2, x3, x4, x5, x6, x7, cR⟩ := hI6
    clear cR
    have eo := HOP.out
    subst eo
    have cX := fun (w2 : World) (ho : Only Nil w' w2) => difference_any mb B N u cv _ iv ov s w2 (hM6.1.kept ho (fun h => h)) hB0 hN hk
    rw [hrr', hs2] at cX
    have HM := Lib.hid hM6
    clear hM6
    go_wp2_with fail
    try (go_quiet (fail); go_wp2_with fail)
    refine (cX _ (by (repeat with_reducible first | exact Only.refl _ _ | refine Only.drewN ?_ _ | refine Only.drew ?_))).mono ?_
    rintro e w7 ⟨rfl, hB7, ho7⟩
    have y3 := ho7.cell x3 (fun h => hneq h)
    have hM7 := HM.out.own (s' := s2) ho7 hB7 (by rw [← HS2.out]) (by rw [← HS2.out]) (by rw [← HS2.out])
    have ho7' : Only (M.One mb) w w7 := (ho6'.mono (T := M.One mb) (fun _ h => h.elim)).trans ho7 (fun _ _ h => h)
    have cS := set_any mb a rr cv _ iv ov s2 w7 hM7.1 ha hrr
    have HM7 := Lib.hid hM7
    have HO7 := Lib.hid ho7'
    clear hM7 HM cX x0 x1 x2 x3 x4 x5 x6 x7
    go_wp2_with fail
    try (go_quiet (fail); go_wp2_with fail)
    refine cS.mono ?_
    rintro e w3 ⟨rfl, hB3, ho3⟩
    have hM3 := HM7.out.own ho3 hB3 rfl rfl rfl
    clear cS hB3 HM7
    go_wp2_with fail
    go_ret
    exact ⟨rfl, HO7.out.trans ho3 (fun _ _ h => h), hM3⟩


set_option maxHeartbeats 1600000 in
theorem reckon_mulu (mb wb : Nat) (ob : Option Nat) (code : List Nat) (F : Int) (u v : Bool) (a b c o : Nat) (m : Int) (h1 : -2147483648 ≤ m) (h2 : m ≤ 2147483647) (ha : a < 16) (hb : b < 16) (cv iv ov : Value) (s : St) (w : World) (hs : s.Ok) (hM : MAt Q w mb wb ob code s cv iv ov) {N : Nat} (hN : N < 4294967296)
    (cO : ∀ w', Only Nil w w' → Calls Try.prog 61 #[.pointer (some ⟨mb, 0, none⟩), ic F u v a b c o m] w' fun e w2 => e = .returned (.int .u32 N) ∧ Only Nil w' w2) (hO : o = 10) {B : Nat} (hB : s.R b = B) (hu : u = true) {rr : Nat} (hrr' : B * N % 4294967296 = rr) {s2 : St} (hs2 : { s with H := B * N / 4294967296 } = s2) :
    Calls Try.prog 45 #[.pointer (some ⟨mb, 0, none⟩), ic F u v a b c o m] w fun e w' => e = .returned (.bool true) ∧ Only (M.One mb) w w' ∧ MAt Q w' mb wb ob code (setR s2 a (rr)) cv iv ov := by
  have hB0 : B < 4294967296 := by rw [← hB]; exact hs.reg b hb
  have hrr : rr < 4294967296 := by rw [← hrr']; exact Nat.mod_lt _ (by decide)
  have HS2 := Lib.hid hs2
  have HU := Lib.hid hu
  clear hu
  have HOP := Lib.hid hO
  clear hO
  have hMa := hM.quiet ((Only.refl Nil w).alloc (.cells (icz F u v a b c o m) 49))
  have cR := (hMa.1.cell (4 + b)).trans (icells_reg cv _ iv ov s hb)
  rw [hB] at cR
  have hB32 : B < 4294967296 := by rw [← hB]; exact hs.reg b hb
  have hlt := hM.1.lt
  have hlta := hMa.1.lt
  have i1 := insAt (w := w) (Only.refl Nil (w.alloc (.cells (icz F u v a b c o m) 49)))
  obtain ⟨x0, x1, x2, x3, x4, x5, x6, x7, x8⟩ := i1
  obtain ⟨wa, hwa⟩ : ∃ wa, w.alloc (.cells (icz F u v a b c o m) 49) = wa := ⟨_, rfl⟩
  have hoa : Only Nil w wa := hwa ▸ (Only.refl Nil w).alloc _
  rw [hwa] at cR hMa hlta x0 x1 x2 x3 x4 x5 x6 x7 x8
  obtain ⟨ib, hib⟩ : ∃ b, w.heap.size = b := ⟨_, rfl⟩
  have hneq : ib ≠ mb := by omega
  rw [hib] at x0 x1 x2 x3 x4 x5 x6 x7 x8
  have hI0 : RAt ib mb b B F u v a b c o m wa := ⟨x0, x1, x2, x3, x4, x5, x6, x7, cR⟩
  have b0 : (0 : Int) ≤ (b : Int) := Int.natCast_nonneg _
  have b1 : (b : Int) < 16 := by omega
  unfold ic at cO ⊢
  unfold icz at hwa
  go_enter Try.func45, Try.ntmps45
  go_wp2_with fail
  first
    | (go_region_held3 (fun w' => (w'.cell? ⟨ib, 0, none⟩ = some (.int .i64 F) ∧ w'.cell? ⟨ib, 1, none⟩ = some (.bool u) ∧ w'.cell? ⟨ib, 2, none⟩ = some (.bool v) ∧ w'.cell? ⟨ib, 3, none⟩ = some (.int .i64 a) ∧ w'.cell? ⟨ib, 4, none⟩ = some (.int .i64 b) ∧ w'.cell? ⟨ib, 5, none⟩ = some (.int .i64 c) ∧ w'.cell? ⟨ib, 6, none⟩ = some (.int .i64 o) ∧ w'.cell? ⟨ib, 7, none⟩ = some (.int .i32 m) ∧ w'.cell? ⟨mb, 4 + b, none⟩ = some (.int .u32 B)) ∧ Only Nil wa w') (first | (assumption) | (exact ⟨hI0.kept (Only.refl _ _).drew, (Only.refl _ _).drew⟩) | (go_split_ands; exact ⟨hI0.kept (Only.trans (by assumption) ho5 (fun _ _ h => h)), Only.trans (by assumption) ho5 (fun _ _ h => h)⟩)) (first | (go_at_call 61; refine (cO _ ?_).mono ?_; (go_split_ands; exact hoa.trans (by assumption) (fun _ _ h => h)); rintro e w' ⟨rfl, ho5⟩)))
    | fail "REGION"
  all_goals go_split_ands
  all_goals
    have ho6 : Only Nil wa w' := by assumption
    have ho6' : Only Nil w w' := hoa.trans ho6 (fun _ _ h => h)
    have hI6 := hI0.kept ho6
    have hM6 := hMa.quiet ho6
    have hlt6 := hM6.1.lt
    have hsz6 := ho6.size
    obtain ⟨wb', hwb⟩ : ∃ wx, w' = wx := ⟨_, rfl⟩
    subst hwb
    clear ho5 x0 x1 x2 x3 x4 x5 x6 x7 cR hMa hI0 ho6
    have HI := Lib.hid hI6
    unfold RAt at hI6
    obtain ⟨x0, x1, x2, x3, x4, x5, x6, x7, cR⟩ := hI6
    clear cR
    have eu := HU.out
    subst eu
    have eo := HOP.out
    subst eo
    have cX := fun (w2 : World) (ho : Only Nil w' w2) => product_u mb B N cv _ iv ov s w2 (hM6.1.kept ho (fun h => h)) hB0 hN
    rw [hrr', hs2] at cX
    have HM := Lib.hid hM6
    clear hM6
    go_wp2_with fail
    try (go_quiet (fail); go_wp2_with fail)
    refine (cX _ (by (repeat with_reducible first | exact Only.refl _ _ | refine Only.drewN ?_ _ | refine Only.drew ?_))).mono ?_
    rintro e w7 ⟨rfl, hB7, ho7⟩
    have y3 := ho7.cell x3 (fun h => hneq h)
    have hM7 := HM.out.own (s' := s2) ho7 hB7 (by rw [← HS2.out]) (by rw [← HS2.out]) (by rw [← HS2.out])
    have ho7' : Only (M.One mb) w w7 := (ho6'.mono (T := M.One mb) (fun _ h => h.elim)).trans ho7 (fun _ _ h => h)
    have cS := set_any mb a rr cv _ iv ov s2 w7 hM7.1 ha hrr
    have HM7 := Lib.hid hM7
    have HO7 := Lib.hid ho7'
    clear hM7 HM cX x0 x1 x2 x3 x4 x5 x6 x7
    go_wp2_with fail
    try (go_quiet (fail); go_wp2_with fail)
    refine cS.mono ?_
    rintro e w3 ⟨rfl, hB3, ho3⟩
    have hM3 := HM7.out.own ho3 hB3 rfl rfl rfl
    clear cS hB3 HM7
    go_wp2_with fail
    go_ret
    exact ⟨rfl, HO7.out.trans ho3 (fun _ _ h => h), hM3⟩


set_option maxHeartbeats 1600000 in
theorem reckon_muls (mb wb : Nat) (ob : Option Nat) (code : List Nat) (F : Int) (u v : Bool) (a b c o : Nat) (m : Int) (h1 : -2147483648 ≤ m) (h2 : m ≤ 2147483647) (ha : a < 16) (hb : b < 16) (cv iv ov : Value) (s : St) (w : World) (hs : s.Ok) (hM : MAt Q w mb wb ob code s cv iv ov) {N : Nat} (hN : N < 4294967296)
    (cO : ∀ w', Only Nil w w' → Calls Try.prog 61 #[.pointer (some ⟨mb, 0, none⟩), ic F u v a b c o m] w' fun e w2 => e = .returned (.int .u32 N) ∧ Only Nil w' w2) (hO : o = 10) {B : Nat} (hB : s.R b = B) (hu : u = false) {rr : Nat} (hrr' : U (S B * S N) = rr) {s2 : St} (hs2 : { s with H := U (S B * S N / 4294967296) } = s2) :
    Calls Try.prog 45 #[.pointer (some ⟨mb, 0, none⟩), ic F u v a b c o m] w fun e w' => e = .returned (.bool true) ∧ Only (M.One mb) w w' ∧ MAt Q w' mb wb ob code (setR s2 a (rr)) cv iv ov := by
  have hB0 : B < 4294967296 := by rw [← hB]; exact hs.reg b hb
  have hrr : rr < 4294967296 := by rw [← hrr']; exact U_lt _
  have HS2 := Lib.hid hs2
  have HU := Lib.hid hu
  clear hu
  have HOP := Lib.hid hO
  clear hO
  have hMa := hM.quiet ((Only.refl Nil w).alloc (.cells (icz F u v a b c o m) 49))
  have cR := (hMa.1.cell (4 + b)).trans (icells_reg cv _ iv ov s hb)
  rw [hB] at cR
  have hB32 : B < 4294967296 := by rw [← hB]; exact hs.reg b hb
  have hlt := hM.1.lt
  have hlta := hMa.1.lt
  have i1 := insAt (w := w) (Only.refl Nil (w.alloc (.cells (icz F u v a b c o m) 49)))
  obtain ⟨x0, x1, x2, x3, x4, x5, x6, x7, x8⟩ := i1
  obtain ⟨wa, hwa⟩ : ∃ wa, w.alloc (.cells (icz F u v a b c o m) 49) = wa := ⟨_, rfl⟩
  have hoa : Only Nil w wa := hwa ▸ (Only.refl Nil w).alloc _
  rw [hwa] at cR hMa hlta x0 x1 x2 x3 x4 x5 x6 x7 x8
  obtain ⟨ib, hib⟩ : ∃ b, w.heap.size = b := ⟨_, rfl⟩
  have hneq : ib ≠ mb := by omega
  rw [hib] at x0 x1 x2 x3 x4 x5 x6 x7 x8
  have hI0 : RAt ib mb b B F u v a b c o m wa := ⟨x0, x1, x2, x3, x4, x5, x6, x7, cR⟩
  have b0 : (0 : Int) ≤ (b : Int) := Int.natCast_nonneg _
  have b1 : (b : Int) < 16 := by omega
  unfold ic at cO ⊢
  unfold icz at hwa
  go_enter Try.func45, Try.ntmps45
  go_wp2_with fail
  first
    | (go_region_held3 (fun w' => (w'.cell? ⟨ib, 0, none⟩ = some (.int .i64 F) ∧ w'.cell? ⟨ib, 1, none⟩ = some (.bool u) ∧ w'.cell? ⟨ib, 2, none⟩ = some (.bool v) ∧ w'.cell? ⟨ib, 3, none⟩ = some (.int .i64 a) ∧ w'.cell? ⟨ib, 4, none⟩ = some (.int .i64 b) ∧ w'.cell? ⟨ib, 5, none⟩ = some (.int .i64 c) ∧ w'.cell? ⟨ib, 6, none⟩ = some (.int .i64 o) ∧ w'.cell? ⟨ib, 7, none⟩ = some (.int .i32 m) ∧ w'.cell? ⟨mb, 4 + b, none⟩ = some (.int .u32 B)) ∧ Only Nil wa w') (first | (assumption) | (exact ⟨hI0.kept (Only.refl _ _).drew, (Only.refl _ _).drew⟩) | (go_split_ands; exact ⟨hI0.kept (Only.trans (by assumption) ho5 (fun _ _ h => h)), Only.trans (by assumption) ho5 (fun _ _ h => h)⟩)) (first | (go_at_call 61; refine (cO _ ?_).mono ?_; (go_split_ands; exact hoa.trans (by assumption) (fun _ _ h => h)); rintro e w' ⟨rfl, ho5⟩)))
    | fail "REGION"
  all_goals go_split_ands
  all_goals
    have ho6 : Only Nil wa w' := by assumption
    have ho6' : Only Nil w w' := hoa.trans ho6 (fun _ _ h => h)
    have hI6 := hI0.kept ho6
    have hM6 := hMa.quiet ho6
    have hlt6 := hM6.1.lt
    have hsz6 := ho6.size
    obtain ⟨wb', hwb⟩ : ∃ wx, w' = wx := ⟨_, rfl⟩
    subst hwb
    clear ho5 x0 x1 x2 x3 x4 x5 x6 x7 cR hMa hI0 ho6
    have HI := Lib.hid hI6
    unfold RAt at hI6
    obtain ⟨x0, x1, x2, x3, x4, x5, x6, x7, cR⟩ := hI6
    clear cR
    have eu := HU.out
    subst eu
    have eo := HOP.out
    subst eo
    have cX := fun (w2 : World) (ho : Only Nil w' w2) => product_s mb B N cv _ iv ov s w2 (hM6.1.kept ho (fun h => h)) hB0 hN
    rw [hrr', hs2] at cX
    have HM := Lib.hid hM6
    clear hM6
    go_wp2_with fail
    try (go_quiet (fail); go_wp2_with fail)
    refine (cX _ (by (repeat with_reducible first | exact Only.refl _ _ | refine Only.drewN ?_ _ | refine Only.drew ?_))).mono ?_
    rintro e w7 ⟨rfl, hB7, ho7⟩
    have y3 := ho7.cell x3 (fun h => hneq h)
    have hM7 := HM.out.own (s' := s2) ho7 hB7 (by rw [← HS2.out]) (by rw [← HS2.out]) (by rw [← HS2.out])
    have ho7' : Only (M.One mb) w w7 := (ho6'.mono (T := M.One mb) (fun _ h => h.elim)).trans ho7 (fun _ _ h => h)
    have cS := set_any mb a rr cv _ iv ov s2 w7 hM7.1 ha hrr
    have HM7 := Lib.hid hM7
    have HO7 := Lib.hid ho7'
    clear hM7 HM cX x0 x1 x2 x3 x4 x5 x6 x7
    go_wp2_with fail
    try (go_quiet (fail); go_wp2_with fail)
    refine cS.mono ?_
    rintro e w3 ⟨rfl, hB3, ho3⟩
    have hM3 := HM7.out.own ho3 hB3 rfl rfl rfl
    clear cS hB3 HM7
    go_wp2_with fail
    go_ret
    exact ⟨rfl, HO7.out.trans ho3 (fun _ _ h => h), hM3⟩


set_option maxHeartbeats 1600000 in
theorem reckon_div (mb wb : Nat) (ob : Option Nat) (code : List Nat) (F : Int) (u v : Bool) (a b c o : Nat) (m : Int) (h1 : -2147483648 ≤ m) (h2 : m ≤ 2147483647) (ha : a < 16) (hb : b < 16) (cv iv ov : Value) (s : St) (w : World) (hs : s.Ok) (hM : MAt Q w mb wb ob code s cv iv ov) {N : Nat} (hN : N < 4294967296)
    (cO : ∀ w', Only Nil w w' → Calls Try.prog 61 #[.pointer (some ⟨mb, 0, none⟩), ic F u v a b c o m] w' fun e w2 => e = .returned (.int .u32 N) ∧ Only Nil w' w2) (hO : o = 11) {B : Nat} (hB : s.R b = B) (hd : 1 ≤ S N) {rr : Nat} (hrr' : U (S B / S N) = rr) {s2 : St} (hs2 : { s with H := U (S B % S N) } = s2) :
    Calls Try.prog 45 #[.pointer (some ⟨mb, 0, none⟩), ic F u v a b c o m] w fun e w' => e = .returned (.bool true) ∧ Only (M.One mb) w w' ∧ MAt Q w' mb wb ob code (setR s2 a (rr)) cv iv ov := by
  have hB0 : B < 4294967296 := by rw [← hB]; exact hs.reg b hb
  have hrr : rr < 4294967296 := by rw [← hrr']; exact U_lt _
  have HS2 := Lib.hid hs2
  have HOP := Lib.hid hO
  clear hO
  have hMa := hM.quiet ((Only.refl Nil w).alloc (.cells (icz F u v a b c o m) 49))
  have cR := (hMa.1.cell (4 + b)).trans (icells_reg cv _ iv ov s hb)
  rw [hB] at cR
  have hB32 : B < 4294967296 := by rw [← hB]; exact hs.reg b hb
  have hlt := hM.1.lt
  have hlta := hMa.1.lt
  have i1 := insAt (w := w) (Only.refl Nil (w.alloc (.cells (icz F u v a b c o m) 49)))
  obtain ⟨x0, x1, x2, x3, x4, x5, x6, x7, x8⟩ := i1
  obtain ⟨wa, hwa⟩ : ∃ wa, w.alloc (.cells (icz F u v a b c o m) 49) = wa := ⟨_, rfl⟩
  have hoa : Only Nil w wa := hwa ▸ (Only.refl Nil w).alloc _
  rw [hwa] at cR hMa hlta x0 x1 x2 x3 x4 x5 x6 x7 x8
  obtain ⟨ib, hib⟩ : ∃ b, w.heap.size = b := ⟨_, rfl⟩
  have hneq : ib ≠ mb := by omega
  rw [hib] at x0 x1 x2 x3 x4 x5 x6 x7 x8
  have hI0 : RAt ib mb b B F u v a b c o m wa := ⟨x0, x1, x2, x3, x4, x5, x6, x7, cR⟩
  have b0 : (0 : Int) ≤ (b : Int) := Int.natCast_nonneg _
  have b1 : (b : Int) < 16 := by omega
  unfold ic at cO ⊢
  unfold icz at hwa
  go_enter Try.func45, Try.ntmps45
  go_wp2_with fail
  first
    | (go_region_held3 (fun w' => (w'.cell? ⟨ib, 0, none⟩ = some (.int .i64 F) ∧ w'.cell? ⟨ib, 1, none⟩ = some (.bool u) ∧ w'.cell? ⟨ib, 2, none⟩ = some (.bool v) ∧ w'.cell? ⟨ib, 3, none⟩ = some (.int .i64 a) ∧ w'.cell? ⟨ib, 4, none⟩ = some (.int .i64 b) ∧ w'.cell? ⟨ib, 5, none⟩ = some (.int .i64 c) ∧ w'.cell? ⟨ib, 6, none⟩ = some (.int .i64 o) ∧ w'.cell? ⟨ib, 7, none⟩ = some (.int .i32 m) ∧ w'.cell? ⟨mb, 4 + b, none⟩ = some (.int .u32 B)) ∧ Only Nil wa w') (first | (assumption) | (exact ⟨hI0.kept (Only.refl _ _).drew, (Only.refl _ _).drew⟩) | (go_split_ands; exact ⟨hI0.kept (Only.trans (by assumption) ho5 (fun _ _ h => h)), Only.trans (by assumption) ho5 (fun _ _ h => h)⟩)) (first | (go_at_call 61; refine (cO _ ?_).mono ?_; (go_split_ands; exact hoa.trans (by assumption) (fun _ _ h => h)); rintro e w' ⟨rfl, ho5⟩)))
    | fail "REGION"
  all_goals go_split_ands
  all_goals
    have ho6 : Only Nil wa w' := by assumption
    have ho6' : Only Nil w w' := hoa.trans ho6 (fun _ _ h => h)
    have hI6 := hI0.kept ho6
    have hM6 := hMa.quiet ho6
    have hlt6 := hM6.1.lt
    have hsz6 := ho6.size
    obtain ⟨wb', hwb⟩ : ∃ wx, w' = wx := ⟨_, rfl⟩
    subst hwb
    clear ho5 x0 x1 x2 x3 x4 x5 x6 x7 cR hMa hI0 ho6
    have HI := Lib.hid hI6
    unfold RAt at hI6
    obtain ⟨x0, x1, x2, x3, x4, x5, x6, x7, cR⟩ := hI6
    clear cR
    have eo := HOP.out
    subst eo
    have cX := fun (w2 : World) (ho : Only Nil w' w2) => quotient_any mb B N cv _ iv ov s w2 (hM6.1.kept ho (fun h => h)) hB0 hN hd
    rw [hrr', hs2] at cX
    have HM := Lib.hid hM6
    clear hM6
    go_wp2_with fail
    try (go_quiet (fail); go_wp2_with fail)
    refine (cX _ (by (repeat with_reducible first | exact Only.refl _ _ | refine Only.drewN ?_ _ | refine Only.drew ?_))).mono ?_
    rintro e w7 ⟨rfl, hB7, ho7⟩
    have y3 := ho7.cell x3 (fun h => hneq h)
    have hM7 := HM.out.own (s' := s2) ho7 hB7 (by rw [← HS2.out]) (by rw [← HS2.out]) (by rw [← HS2.out])
    have ho7' : Only (M.One mb) w w7 := (ho6'.mono (T := M.One mb) (fun _ h => h.elim)).trans ho7 (fun _ _ h => h)
    have cS := set_any mb a rr cv _ iv ov s2 w7 hM7.1 ha hrr
    have HM7 := Lib.hid hM7
    have HO7 := Lib.hid ho7'
    clear hM7 HM cX x0 x1 x2 x3 x4 x5 x6 x7
    go_wp2_with fail
    try (go_quiet (fail); go_wp2_with fail)
    refine cS.mono ?_
    rintro e w3 ⟨rfl, hB3, ho3⟩
    have hM3 := HM7.out.own ho3 hB3 rfl rfl rfl
    clear cS hB3 HM7
    go_wp2_with fail
    go_ret
    exact ⟨rfl, HO7.out.trans ho3 (fun _ _ h => h), hM3⟩


set_option maxHeartbeats 1600000 in
theorem reckon_no (mb wb : Nat) (ob : Option Nat) (code : List Nat) (F : Int) (u v : Bool) (a b c o : Nat) (m : Int) (h1 : -2147483648 ≤ m) (h2 : m ≤ 2147483647) (ha : a < 16) (hb : b < 16) (cv iv ov : Value) (s : St) (w : World) (hs : s.Ok) (hM : MAt Q w mb wb ob code s cv iv ov) {N : Nat} (hN : N < 4294967296)
    (cO : ∀ w', Only Nil w w' → Calls Try.prog 61 #[.pointer (some ⟨mb, 0, none⟩), ic F u v a b c o m] w' fun e w2 => e = .returned (.int .u32 N) ∧ Only Nil w' w2) (hO : o = 11) {B : Nat} (hB : s.R b = B) (hd : S N < 1) :
    Calls Try.prog 45 #[.pointer (some ⟨mb, 0, none⟩), ic F u v a b c o m] w fun e w' => e = .returned (.bool false) ∧ Only Nil w w' := by
  have hB0 : B < 4294967296 := by rw [← hB]; exact hs.reg b hb
  have HOP := Lib.hid hO
  clear hO
  have hMa := hM.quiet ((Only.refl Nil w).alloc (.cells (icz F u v a b c o m) 49))
  have cR := (hMa.1.cell (4 + b)).trans (icells_reg cv _ iv ov s hb)
  rw [hB] at cR
  have hB32 : B < 4294967296 := by rw [← hB]; exact hs.reg b hb
  have hlt := hM.1.lt
  have hlta := hMa.1.lt
  have i1 := insAt (w := w) (Only.refl Nil (w.alloc (.cells (icz F u v a b c o m) 49)))
  obtain ⟨x0, x1, x2, x3, x4, x5, x6, x7, x8⟩ := i1
  obtain ⟨wa, hwa⟩ : ∃ wa, w.alloc (.cells (icz F u v a b c o m) 49) = wa := ⟨_, rfl⟩
  have hoa : Only Nil w wa := hwa ▸ (Only.refl Nil w).alloc _
  rw [hwa] at cR hMa hlta x0 x1 x2 x3 x4 x5 x6 x7 x8
  obtain ⟨ib, hib⟩ : ∃ b, w.heap.size = b := ⟨_, rfl⟩
  have hneq : ib ≠ mb := by omega
  rw [hib] at x0 x1 x2 x3 x4 x5 x6 x7 x8
  have hI0 : RAt ib mb b B F u v a b c o m wa := ⟨x0, x1, x2, x3, x4, x5, x6, x7, cR⟩
  have b0 : (0 : Int) ≤ (b : Int) := Int.natCast_nonneg _
  have b1 : (b : Int) < 16 := by omega
  unfold ic at cO ⊢
  unfold icz at hwa
  go_enter Try.func45, Try.ntmps45
  go_wp2_with fail
  first
    | (go_region_held3 (fun w' => (w'.cell? ⟨ib, 0, none⟩ = some (.int .i64 F) ∧ w'.cell? ⟨ib, 1, none⟩ = some (.bool u) ∧ w'.cell? ⟨ib, 2, none⟩ = some (.bool v) ∧ w'.cell? ⟨ib, 3, none⟩ = some (.int .i64 a) ∧ w'.cell? ⟨ib, 4, none⟩ = some (.int .i64 b) ∧ w'.cell? ⟨ib, 5, none⟩ = some (.int .i64 c) ∧ w'.cell? ⟨ib, 6, none⟩ = some (.int .i64 o) ∧ w'.cell? ⟨ib, 7, none⟩ = some (.int .i32 m) ∧ w'.cell? ⟨mb, 4 + b, none⟩ = some (.int .u32 B)) ∧ Only Nil wa w') (first | (assumption) | (exact ⟨hI0.kept (Only.refl _ _).drew, (Only.refl _ _).drew⟩) | (go_split_ands; exact ⟨hI0.kept (Only.trans (by assumption) ho5 (fun _ _ h => h)), Only.trans (by assumption) ho5 (fun _ _ h => h)⟩)) (first | (go_at_call 61; refine (cO _ ?_).mono ?_; (go_split_ands; exact hoa.trans (by assumption) (fun _ _ h => h)); rintro e w' ⟨rfl, ho5⟩)))
    | fail "REGION"
  all_goals go_split_ands
  all_goals
    have ho6 : Only Nil wa w' := by assumption
    have ho6' : Only Nil w w' := hoa.trans ho6 (fun _ _ h => h)
    have hI6 := hI0.kept ho6
    have hM6 := hMa.quiet ho6
    have hlt6 := hM6.1.lt
    have hsz6 := ho6.size
    obtain ⟨wb', hwb⟩ : ∃ wx, w' = wx := ⟨_, rfl⟩
    subst hwb
    clear ho5 x0 x1 x2 x3 x4 x5 x6 x7 cR hMa hI0 ho6
    have HI := Lib.hid hI6
    unfold RAt at hI6
    obtain ⟨x0, x1, x2, x3, x4, x5, x6, x7, cR⟩ := hI6
    clear cR
    have eo := HOP.out
    subst eo
    have cX := fun (w2 : World) => quotient_no mb B N w2 hB0 hN hd
    have HO := Lib.hid ho6'
    clear hM6 hd
    go_wp2_with fail
    refine (cX _).mono ?_
    rintro e w7 ⟨rfl, hw7⟩
    subst hw7
    go_wp2_with fail
    go_ret
    exact ⟨rfl, HO.out⟩


end Go.Proofs.Ythimhbfglgnohaa
