/- The machine's branch. -/
import Derived.Test.YthimhbfglgnohaaMText
set_option linter.unusedSimpArgs false
set_option linter.unusedVariables false
namespace Go.Proofs.Ythimhbfglgnohaa
open Go.RowKit M
variable {Q : Nat → Prop}

theorem MAt.pcTo {w : World} {mb wb : Nat} {ob : Option Nat} {code : List Nat} {s : St} {cv iv ov : Value} (h : MAt Q w mb wb ob code s cv iv ov) (t : Nat) : MAt Q (w.setCell ⟨mb, 25, none⟩ (.int .i64 t)) mb wb ob code { s with pc := t } cv iv ov := by
  have hB := h.1.setCell 25 (.int .i64 t)
  rw [icells_pc] at hB
  exact h.own (s' := { s with pc := t }) (Only.setOne (Only.refl _ _) _ _) hB rfl rfl rfl
theorem MAt.linkTo {w : World} {mb wb : Nat} {ob : Option Nat} {code : List Nat} {s : St} {cv iv ov : Value} (h : MAt Q w mb wb ob code s cv iv ov) (t : Nat) : MAt Q (w.setCell ⟨mb, 19, none⟩ (.int .u32 t)) mb wb ob code { s with R := upd s.R 15 t } cv iv ov := by
  have hB := h.1.setCell 19 (.int .u32 t)
  rw [show (19 : Nat) = 4 + 15 from rfl, icells_setR _ _ _ _ _ _ (by decide)] at hB
  exact h.own (s' := { s with R := upd s.R 15 t }) (Only.setOne (Only.refl _ _) _ _) hB rfl rfl rfl

set_option maxHeartbeats 800000 in
theorem branch_not (mb wb : Nat) (ob : Option Nat) (code : List Nat) (u v : Bool) (a b c o : Nat) (m : Int) (h1 : -2147483648 ≤ m) (h2 : m ≤ 2147483647) (ha : a < 16) (hc : c < 16) (cv iv ov : Value) (s : St) (w : World) (hs : s.Ok) (hM : MAt Q w mb wb ob code s cv iv ov) (hh : holds s a = false) :
    Calls Try.prog 42 #[.pointer (some ⟨mb, 0, none⟩), ic 3 u v a b c o m] w fun e w' => e = .returned (.bool true) ∧ Only (M.One mb) w w' ∧ MAt Q w' mb wb ob code { s with pc := s.pc + 1 } cv iv ov := by
  have cH := fun (w' : World) (ho : Only Nil w w') => holds_any mb a ha cv _ iv ov s w' (hM.1.kept ho (fun h => h))
  rw [hh] at cH
  unfold ic
  go_enter Try.func42, Try.ntmps42
  go_wp2_with fail
  refine (cH _ ((Only.refl _ _).alloc _)).mono ?_
  rintro e w1 ⟨rfl, ho1⟩
  have i1 := insAt (ho1)
  have ho1' : Only Nil w w1 := ((Only.refl Nil w).alloc _).trans ho1 (fun _ _ h => h)
  obtain ⟨ib, hib⟩ : ∃ b, w.heap.size = b := ⟨_, rfl⟩
  have hneq : ib ≠ mb := by have := hM.1.lt; omega
  rw [hib] at i1 ⊢
  clear cH
  obtain ⟨x0, x1, x2, x3, x4, x5, x6, x7, x8⟩ := i1
  have hM2 := hM.quiet ho1'
  have c25 : w1.cell? ⟨mb, 25, none⟩ = some (.int .i64 s.pc) := hM2.1.cell 25
  have f25 := hM2.1.free 25
  have hlt1 := hM2.1.lt
  clear hM
  obtain ⟨pc, hpc'⟩ : ∃ pc, s.pc = pc := ⟨_, rfl⟩
  have hpc : pc ≤ 1048576 := by rw [← hpc']; exact hs.pc
  rw [hpc'] at c25
  have HP := Lib.hid hpc'
  clear hpc'
  have hB := hM2.1.setCell 25 (.int .i64 (s.pc + 1 : Nat))
  rw [icells_pc, HP.out] at hB
  have HM := Lib.hid (hM2.own (s' := { s with pc := pc + 1 }) (Only.setOne (Only.refl _ _) _ _) hB rfl rfl rfl)
  have HO : Hid (Only (M.One mb) w w1) := Lib.hid (ho1'.mono (fun _ h => h.elim))
  clear hM2 hs hh x0 x1 x2 x3 x4 x5 x6 x7 hB
  go_wp2_with fail
  go_ret
  refine ⟨rfl, Only.setOne HO.out _ _, ?_⟩
  rw [HP.out]
  exact HM.out

set_option maxHeartbeats 800000 in
theorem branch_end (mb wb : Nat) (ob : Option Nat) (code : List Nat) (a b o : Nat) (t : Nat) (ht : t ≤ 15) (ha : a < 16) (cv iv ov : Value) (s : St) (w : World) (hs : s.Ok) (hM : MAt Q w mb wb ob code s cv iv ov) (hh : holds s a = true) :
    Calls Try.prog 42 #[.pointer (some ⟨mb, 0, none⟩), ic 3 false true a b 12 o t] w fun e w' => e = .returned (.bool true) ∧ Only (M.One mb) w w' ∧ MAt Q w' mb wb ob code (ended s t) cv iv ov := by
  have cH := fun (w' : World) (ho : Only Nil w w') => holds_any mb a ha cv _ iv ov s w' (hM.1.kept ho (fun h => h))
  rw [hh] at cH
  unfold ic
  go_enter Try.func42, Try.ntmps42
  go_wp2_with fail
  refine (cH _ ((Only.refl _ _).alloc _)).mono ?_
  rintro e w1 ⟨rfl, ho1⟩
  have i1 := insAt (ho1)
  have ho1' : Only Nil w w1 := ((Only.refl Nil w).alloc _).trans ho1 (fun _ _ h => h)
  obtain ⟨ib, hib⟩ : ∃ b, w.heap.size = b := ⟨_, rfl⟩
  have hneq : ib ≠ mb := by have := hM.1.lt; omega
  rw [hib] at i1 ⊢
  clear cH
  obtain ⟨x0, x1, x2, x3, x4, x5, x6, x7, x8⟩ := i1
  have hM2 := hM.quiet ho1'
  have c25 : w1.cell? ⟨mb, 25, none⟩ = some (.int .i64 s.pc) := hM2.1.cell 25
  have f25 := hM2.1.free 25
  have hlt1 := hM2.1.lt
  clear hM
  have HM := Lib.hid hM2
  have cF := fun (w' : World) (ho : Only Nil w1 w') => finish_any mb t cv _ iv ov s w' (hM2.1.kept ho (fun h => h)) ht
  have t1 : (t : Int) ≤ 15 := by omega
  have HO : Hid (Only (M.One mb) w w1) := Lib.hid (ho1'.mono (fun _ h => h.elim))
  clear hM2 hs hh c25 f25
  go_wp2_with fail
  refine (cF _ (Only.refl _ _)).mono ?_
  rintro e w3 ⟨rfl, hB3, ho3⟩
  have hM3 := HM.out.own ho3 hB3 rfl rfl rfl
  clear cF hB3 HM
  go_wp2_with fail
  go_ret
  exact ⟨rfl, HO.out.trans ho3 (fun _ _ h => h), hM3⟩

set_option maxHeartbeats 1600000 in
theorem branch_far (mb wb : Nat) (ob : Option Nat) (code : List Nat) (u v : Bool) (a b c o : Nat) (m : Int) (h1 : -2147483648 ≤ m) (h2 : m ≤ 2147483647) (ha : a < 16) (hc : c < 16) (cv iv ov : Value) (s : St) (w : World) (hs : s.Ok) (hM : MAt Q w mb wb ob code s cv iv ov) (hh : holds s a = true) (hne : u = false → v = true → c ≠ 12) {T : Int} (hT : (if u then (s.pc : Int) + 1 + m else (s.R c : Int)) = T) (hb : T < 0 ∨ 1048576 < T) :
    Calls Try.prog 42 #[.pointer (some ⟨mb, 0, none⟩), ic 3 u v a b c o m] w fun e w' => e = .returned (.bool false) ∧ Only Nil w w' := by
  have cH := fun (w' : World) (ho : Only Nil w w') => holds_any mb a ha cv _ iv ov s w' (hM.1.kept ho (fun h => h))
  rw [hh] at cH
  unfold ic
  go_enter Try.func42, Try.ntmps42
  go_wp2_with fail
  refine (cH _ ((Only.refl _ _).alloc _)).mono ?_
  rintro e w1 ⟨rfl, ho1⟩
  have i1 := insAt (ho1)
  have ho1' : Only Nil w w1 := ((Only.refl Nil w).alloc _).trans ho1 (fun _ _ h => h)
  obtain ⟨ib, hib⟩ : ∃ b, w.heap.size = b := ⟨_, rfl⟩
  have hneq : ib ≠ mb := by have := hM.1.lt; omega
  rw [hib] at i1 ⊢
  clear cH
  obtain ⟨x0, x1, x2, x3, x4, x5, x6, x7, x8⟩ := i1
  have hM2 := hM.quiet ho1'
  have c25 : w1.cell? ⟨mb, 25, none⟩ = some (.int .i64 s.pc) := hM2.1.cell 25
  have f25 := hM2.1.free 25
  have hlt1 := hM2.1.lt
  clear hM
  obtain ⟨pc, hpc'⟩ : ∃ pc, s.pc = pc := ⟨_, rfl⟩
  have hpc : pc ≤ 1048576 := by rw [← hpc']; exact hs.pc
  rw [hpc'] at c25
  have HP := Lib.hid hpc'
  clear hpc'
  have cR := (hM2.1.cell (4 + c)).trans (icells_reg cv _ iv ov s hc)
  have hr1 := hs.reg c hc
  obtain ⟨r, hr⟩ : ∃ r, s.R c = r := ⟨_, rfl⟩
  rw [hr] at cR hT hr1
  rw [HP.out] at hT
  have c0 : (0 : Int) ≤ (c : Int) := Int.natCast_nonneg _
  have c1 : (c : Int) < 16 := by omega
  clear hM2 hs hh hr HP x3 x4 x6 hneq hib
  cases u
  · have e : (r : Int) = T := by simpa using hT
    have hbig : 1048576 < (r : Int) := by omega
    clear hT hb e
    cases v
    · go_wp2_with fail
      try (go_quiet (fail); go_wp2_with fail)
      try (go_quiet (fail); go_wp2_with fail)
      go_ret
      exact ⟨rfl, (by (repeat with_reducible first | exact ho1' | refine Only.drewN ?_ _ | refine Only.drew ?_))⟩
    · have hc12 := hne rfl rfl
      have hc12' : (c : Int) ≠ 12 := by omega
      go_wp2_with fail
      try (go_quiet (fail); go_wp2_with fail)
      try (go_quiet (fail); go_wp2_with fail)
      go_ret
      exact ⟨rfl, (by (repeat with_reducible first | exact ho1' | refine Only.drewN ?_ _ | refine Only.drew ?_))⟩
  · have e : (pc : Int) + 1 + m = T := by simpa using hT
    clear hT hne
    subst e
    rcases hb with hb | hb
    all_goals
      go_wp2_with fail
      try (go_quiet (fail); go_wp2_with fail)
      try (go_quiet (fail); go_wp2_with fail)
      go_ret
      exact ⟨rfl, (by (repeat with_reducible first | exact ho1' | refine Only.drewN ?_ _ | refine Only.drew ?_))⟩

set_option maxHeartbeats 1600000 in
theorem branch_go (mb wb : Nat) (ob : Option Nat) (code : List Nat) (u v : Bool) (a b c o : Nat) (m : Int) (h1 : -2147483648 ≤ m) (h2 : m ≤ 2147483647) (ha : a < 16) (hc : c < 16) (cv iv ov : Value) (s : St) (w : World) (hs : s.Ok) (hM : MAt Q w mb wb ob code s cv iv ov) (hh : holds s a = true) (hne : u = false → v = true → c ≠ 12) {t : Nat} (hT : (if u then (s.pc : Int) + 1 + m else (s.R c : Int)) = (t : Int)) (ht : t ≤ 1048576) :
    Calls Try.prog 42 #[.pointer (some ⟨mb, 0, none⟩), ic 3 u v a b c o m] w fun e w' => e = .returned (.bool true) ∧ Only (M.One mb) w w' ∧ MAt Q w' mb wb ob code { s with R := if v then upd s.R 15 (s.pc + 1) else s.R, pc := t } cv iv ov := by
  have cH := fun (w' : World) (ho : Only Nil w w') => holds_any mb a ha cv _ iv ov s w' (hM.1.kept ho (fun h => h))
  rw [hh] at cH
  unfold ic
  go_enter Try.func42, Try.ntmps42
  go_wp2_with fail
  refine (cH _ ((Only.refl _ _).alloc _)).mono ?_
  rintro e w1 ⟨rfl, ho1⟩
  have i1 := insAt (ho1)
  have ho1' : Only Nil w w1 := ((Only.refl Nil w).alloc _).trans ho1 (fun _ _ h => h)
  obtain ⟨ib, hib⟩ : ∃ b, w.heap.size = b := ⟨_, rfl⟩
  have hneq : ib ≠ mb := by have := hM.1.lt; omega
  rw [hib] at i1 ⊢
  clear cH
  obtain ⟨x0, x1, x2, x3, x4, x5, x6, x7, x8⟩ := i1
  have hM2 := hM.quiet ho1'
  have c25 : w1.cell? ⟨mb, 25, none⟩ = some (.int .i64 s.pc) := hM2.1.cell 25
  have f25 := hM2.1.free 25
  have hlt1 := hM2.1.lt
  clear hM
  obtain ⟨pc, hpc'⟩ : ∃ pc, s.pc = pc := ⟨_, rfl⟩
  have hpc : pc ≤ 1048576 := by rw [← hpc']; exact hs.pc
  rw [hpc'] at c25
  have HP := Lib.hid hpc'
  clear hpc'
  have cR := (hM2.1.cell (4 + c)).trans (icells_reg cv _ iv ov s hc)
  have f19 := hM2.1.free 19
  have c19 : w1.cell? ⟨mb, 19, none⟩ = some (.int .u32 (s.R 15 : Nat)) := hM2.1.cell 19
  have hr1 := hs.reg c hc
  have HM := Lib.hid hM2
  obtain ⟨r, hr⟩ : ∃ r, s.R c = r := ⟨_, rfl⟩
  rw [hr] at cR hT hr1
  rw [HP.out] at hT
  have c0 : (0 : Int) ≤ (c : Int) := Int.natCast_nonneg _
  have c1 : (c : Int) < 16 := by omega
  have HO : Hid (Only (M.One mb) w w1) := Lib.hid (ho1'.mono (fun _ h => h.elim))
  clear hM2 hs hh hr x3 x4 x6 hneq hib
  have eL : ((pc : Int) + 1) % 4294967296 = ((pc + 1 : Nat) : Int) := by omega
  have eL' : IntKind.u32.wrap ((pc : Int) + 1) = ((pc + 1 : Nat) : Int) := by rw [IntKind.wrap_u32]; omega
  have eL2 : IntKind.i64.wrap ((pc : Int) + 1) = ((pc + 1 : Nat) : Int) := by rw [IntKind.wrap_i64]; omega
  have t1 : (t : Int) ≤ 1048576 := by omega
  have t0 : (0 : Int) ≤ (t : Int) := Int.natCast_nonneg _
  cases u
  · have e : r = t := Int.ofNat.inj (by simpa using hT)
    subst e
    clear hT
    cases v
    · go_wp2_with fail
      try (go_quiet (fail); go_wp2_with fail)
      try (go_quiet (fail); go_wp2_with fail)
      go_ret
      refine ⟨rfl, by (repeat with_reducible first | exact HO.out | refine Only.drewN ?_ _ | refine Only.drew ?_ | refine Only.setOne ?_ _ _), ?_⟩
      exact (HM.out.quiet (by (repeat with_reducible first | exact Only.refl _ _ | refine Only.drewN ?_ _ | refine Only.drew ?_))).pcTo _
    · have hc12 := hne rfl rfl
      have hc12' : (c : Int) ≠ 12 := by omega
      go_wp2_with fail
      try (go_quiet (fail); go_wp2_with fail)
      try (go_quiet (fail); go_wp2_with fail)
      go_region
      all_goals go_wp2_with fail
      all_goals go_ret
      all_goals
        refine ⟨rfl, by (repeat with_reducible first | exact HO.out | refine Only.drewN ?_ _ | refine Only.drew ?_ | refine Only.setOne ?_ _ _), ?_⟩
        rw [HP.out]
        exact ((HM.out.quiet (by (repeat with_reducible first | exact Only.refl _ _ | refine Only.drewN ?_ _ | refine Only.drew ?_))).linkTo _).pcTo _
  · have e : (pc : Int) + 1 + m = (t : Int) := by simpa using hT
    clear hT hne
    cases v
    · go_wp2_with fail
      try (go_quiet (fail); go_wp2_with fail)
      try (go_quiet (fail); go_wp2_with fail)
      go_ret
      refine ⟨rfl, by (repeat with_reducible first | exact HO.out | refine Only.drewN ?_ _ | refine Only.drew ?_ | refine Only.setOne ?_ _ _), ?_⟩

      exact (HM.out.quiet (by (repeat with_reducible first | exact Only.refl _ _ | refine Only.drewN ?_ _ | refine Only.drew ?_))).pcTo _
    · go_wp2_with fail
      try (go_quiet (fail); go_wp2_with fail)
      try (go_quiet (fail); go_wp2_with fail)
      go_region
      all_goals go_wp2_with fail
      all_goals go_ret
      all_goals
        refine ⟨rfl, by (repeat with_reducible first | exact HO.out | refine Only.drewN ?_ _ | refine Only.drew ?_ | refine Only.setOne ?_ _ _), ?_⟩
        rw [HP.out]

        exact ((HM.out.quiet (by (repeat with_reducible first | exact Only.refl _ _ | refine Only.drewN ?_ _ | refine Only.drew ?_))).linkTo _).pcTo _

end Go.Proofs.Ythimhbfglgnohaa
