/- The document's machine's branch. -/
import Derived.Test.YthimhbfglgnohaaDHolds
set_option linter.unusedSimpArgs false
set_option linter.unusedVariables false
namespace Go.Proofs.Ythimhbfglgnohaa
open Go.RowKit M
variable {Q : Nat → Prop}

theorem DAt.linkTo {w : World} {mb wb : Nat} {ob : Option Nat} {code : List Nat} {s : St} {cv iv ov : Value} (h : DAt Q w mb wb ob code s cv iv ov) (t : Nat) : DAt Q (w.setCell ⟨mb, 17, none⟩ (.int .u32 t)) mb wb ob code { s with R := upd s.R 15 t } cv iv ov := by
  have hB := h.1.setCell 17 (.int .u32 t)
  rw [show (17 : Nat) = 2 + 15 from rfl, dcells_setR _ _ _ _ _ _ (by decide)] at hB
  exact h.own (s' := { s with R := upd s.R 15 t }) (Only.setOne (Only.refl _ _) _ _) hB rfl rfl rfl
theorem DAt.endTo {w : World} {mb wb : Nat} {ob : Option Nat} {code : List Nat} {s : St} {cv iv ov : Value} (h : DAt Q w mb wb ob code s cv iv ov) (t : Nat) : DAt Q (w.setCell ⟨mb, 26, none⟩ (.int .i64 t)) mb wb ob code { s with fin := t } cv iv ov := by
  have hB := h.1.setCell 26 (.int .i64 t)
  rw [dcells_fin] at hB
  exact h.own (s' := { s with fin := t }) (Only.setOne (Only.refl _ _) _ _) hB rfl rfl rfl
theorem DAt.trapTo {w : World} {mb wb : Nat} {ob : Option Nat} {code : List Nat} {s : St} {cv iv ov : Value} (h : DAt Q w mb wb ob code s cv iv ov) (t : Nat) : DAt Q (w.setCell ⟨mb, 27, none⟩ (.int .i64 t)) mb wb ob code { s with trap := t } cv iv ov := by
  have hB := h.1.setCell 27 (.int .i64 t)
  rw [dcells_trap] at hB
  exact h.own (s' := { s with trap := t }) (Only.setOne (Only.refl _ _) _ _) hB rfl rfl rfl

set_option maxHeartbeats 800000 in
theorem dbranch_not (mb wb : Nat) (ob : Option Nat) (code : List Nat) (u v : Bool) (a b c o : Nat) (m : Int) (h1 : -2147483648 ≤ m) (h2 : m ≤ 2147483647) (ha : a < 16) (hc : c < 16) (cv iv ov : Value) (s : St) (w : World) (hs : s.Ok) (hM : DAt Q w mb wb ob code s cv iv ov) (hh : holds s a = false) :
    Calls Try.prog 36 #[.pointer (some ⟨mb, 0, none⟩), ic 3 u v a b c o m] w fun e w' => e = .returned (.tuple #[.int .i64 (s.pc + 1 : Nat), .bool true]) ∧ Only Nil w w' := by
  have cH := fun (w' : World) (ho : Only Nil w w') => dholds_any mb a ha cv _ iv ov s w' (hM.1.kept ho (fun h => h))
  rw [hh] at cH
  unfold ic
  go_enter Try.func36, Try.ntmps36
  go_wp2_with fail
  refine (cH _ ((Only.refl _ _).alloc _)).mono ?_
  rintro e w1 ⟨rfl, ho1⟩
  have i1 := insAt (ho1)
  have ho1' : Only Nil w w1 := ((Only.refl Nil w).alloc _).trans ho1 (fun _ _ h => h)
  obtain ⟨ib, hib⟩ : ∃ b, w.heap.size = b := ⟨_, rfl⟩
  have hneq : ib ≠ mb := by have := hM.1.lt; omega
  rw [hib] at i1 ⊢
  clear cH
  obtain ⟨x0, x1, x2, x3, x4, x5, x6, x7, x8⟩ := i1
  have hM2 := hM.quiet ho1'
  have c25 : w1.cell? ⟨mb, 23, none⟩ = some (.int .i64 s.pc) := hM2.1.cell 23
  have f25 := hM2.1.free 23
  have hlt1 := hM2.1.lt
  clear hM
  obtain ⟨pc, hpc'⟩ : ∃ pc, s.pc = pc := ⟨_, rfl⟩
  have hpc : pc ≤ 1048576 := by rw [← hpc']; exact hs.pc
  rw [hpc'] at c25
  have HP := Lib.hid hpc'
  clear hpc'
  clear hM2 hs hh x0 x1 x2 x3 x4 x5 x6 x7
  go_wp2_with fail
  go_ret2
  exact ⟨by rw [HP.out]; rfl, ho1'⟩

set_option maxHeartbeats 1600000 in
theorem dbranch_far (mb wb : Nat) (ob : Option Nat) (code : List Nat) (u v : Bool) (a b c o : Nat) (m : Int) (h1 : -2147483648 ≤ m) (h2 : m ≤ 2147483647) (ha : a < 16) (hc : c < 16) (cv iv ov : Value) (s : St) (w : World) (hs : s.Ok) (hM : DAt Q w mb wb ob code s cv iv ov) (hh : holds s a = true) (hne : u = false → v = true → c ≠ 12) {T : Int} (hT : (if u then (s.pc : Int) + 1 + m else (s.R c : Int)) = T) (hb : T < 0 ∨ 1048576 < T) :
    Calls Try.prog 36 #[.pointer (some ⟨mb, 0, none⟩), ic 3 u v a b c o m] w fun e w' => e = .returned (.tuple #[.int .i64 0, .bool false]) ∧ Only Nil w w' := by
  have cH := fun (w' : World) (ho : Only Nil w w') => dholds_any mb a ha cv _ iv ov s w' (hM.1.kept ho (fun h => h))
  rw [hh] at cH
  unfold ic
  go_enter Try.func36, Try.ntmps36
  go_wp2_with fail
  refine (cH _ ((Only.refl _ _).alloc _)).mono ?_
  rintro e w1 ⟨rfl, ho1⟩
  have i1 := insAt (ho1)
  have ho1' : Only Nil w w1 := ((Only.refl Nil w).alloc _).trans ho1 (fun _ _ h => h)
  obtain ⟨ib, hib⟩ : ∃ b, w.heap.size = b := ⟨_, rfl⟩
  have hneq : ib ≠ mb := by have := hM.1.lt; omega
  rw [hib] at i1 ⊢
  clear cH
  obtain ⟨x0, x1, x2, x3, x4, x5, x6, x7, x8⟩ := i1
  have hM2 := hM.quiet ho1'
  have c25 : w1.cell? ⟨mb, 23, none⟩ = some (.int .i64 s.pc) := hM2.1.cell 23
  have f25 := hM2.1.free 23
  have hlt1 := hM2.1.lt
  clear hM
  obtain ⟨pc, hpc'⟩ : ∃ pc, s.pc = pc := ⟨_, rfl⟩
  have hpc : pc ≤ 1048576 := by rw [← hpc']; exact hs.pc
  rw [hpc'] at c25
  have HP := Lib.hid hpc'
  clear hpc'
  have cR := (hM2.1.cell (2 + c)).trans (dcells_reg cv _ iv ov s hc)
  have hr1 := hs.reg c hc
  obtain ⟨r, hr⟩ : ∃ r, s.R c = r := ⟨_, rfl⟩
  rw [hr] at cR hT hr1
  rw [HP.out] at hT
  have c0 : (0 : Int) ≤ (c : Int) := Int.natCast_nonneg _
  have c1 : (c : Int) < 16 := by omega
  clear hM2 hs hh hr HP x3 x4 x6 hneq hib
  cases u
  · have e : (r : Int) = T := by simpa using hT
    have hbig : 1048576 < (r : Int) := by omega
    clear hT hb e
    cases v
    · go_wp2_with fail
      try (go_quiet (fail); go_wp2_with fail)
      try (go_quiet (fail); go_wp2_with fail)
      go_ret2
      exact ⟨rfl, (by (repeat with_reducible first | exact ho1' | refine Only.drewN ?_ _ | refine Only.drew ?_))⟩
    · have hc12 := hne rfl rfl
      have hc12' : (c : Int) ≠ 12 := by omega
      go_wp2_with fail
      try (go_quiet (fail); go_wp2_with fail)
      try (go_quiet (fail); go_wp2_with fail)
      go_ret2
      exact ⟨rfl, (by (repeat with_reducible first | exact ho1' | refine Only.drewN ?_ _ | refine Only.drew ?_))⟩
  · have e : (pc : Int) + 1 + m = T := by simpa using hT
    clear hT hne
    subst e
    rcases hb with hb | hb
    all_goals
      go_wp2_with fail
      try (go_quiet (fail); go_wp2_with fail)
      try (go_quiet (fail); go_wp2_with fail)
      go_ret2
      exact ⟨rfl, (by (repeat with_reducible first | exact ho1' | refine Only.drewN ?_ _ | refine Only.drew ?_))⟩

set_option maxHeartbeats 1600000 in
theorem dbranch_go (mb wb : Nat) (ob : Option Nat) (code : List Nat) (u v : Bool) (a b c o : Nat) (m : Int) (h1 : -2147483648 ≤ m) (h2 : m ≤ 2147483647) (ha : a < 16) (hc : c < 16) (cv iv ov : Value) (s : St) (w : World) (hs : s.Ok) (hM : DAt Q w mb wb ob code s cv iv ov) (hh : holds s a = true) (hne : u = false → v = true → c ≠ 12) {t : Nat} (hT : (if u then (s.pc : Int) + 1 + m else (s.R c : Int)) = (t : Int)) (ht : t ≤ 1048576) :
    Calls Try.prog 36 #[.pointer (some ⟨mb, 0, none⟩), ic 3 u v a b c o m] w fun e w' => e = .returned (.tuple #[.int .i64 t, .bool true]) ∧ Only (M.One mb) w w' ∧ DAt Q w' mb wb ob code { s with R := if v then upd s.R 15 (s.pc + 1) else s.R } cv iv ov := by
  have cH := fun (w' : World) (ho : Only Nil w w') => dholds_any mb a ha cv _ iv ov s w' (hM.1.kept ho (fun h => h))
  rw [hh] at cH
  unfold ic
  go_enter Try.func36, Try.ntmps36
  go_wp2_with fail
  refine (cH _ ((Only.refl _ _).alloc _)).mono ?_
  rintro e w1 ⟨rfl, ho1⟩
  have i1 := insAt (ho1)
  have ho1' : Only Nil w w1 := ((Only.refl Nil w).alloc _).trans ho1 (fun _ _ h => h)
  obtain ⟨ib, hib⟩ : ∃ b, w.heap.size = b := ⟨_, rfl⟩
  have hneq : ib ≠ mb := by have := hM.1.lt; omega
  rw [hib] at i1 ⊢
  clear cH
  obtain ⟨x0, x1, x2, x3, x4, x5, x6, x7, x8⟩ := i1
  have hM2 := hM.quiet ho1'
  have c25 : w1.cell? ⟨mb, 23, none⟩ = some (.int .i64 s.pc) := hM2.1.cell 23
  have f25 := hM2.1.free 23
  have hlt1 := hM2.1.lt
  clear hM
  obtain ⟨pc, hpc'⟩ : ∃ pc, s.pc = pc := ⟨_, rfl⟩
  have hpc : pc ≤ 1048576 := by rw [← hpc']; exact hs.pc
  rw [hpc'] at c25
  have HP := Lib.hid hpc'
  clear hpc'
  have cR := (hM2.1.cell (2 + c)).trans (dcells_reg cv _ iv ov s hc)
  have f19 := hM2.1.free 17
  have c19 : w1.cell? ⟨mb, 17, none⟩ = some (.int .u32 (s.R 15 : Nat)) := hM2.1.cell 17
  have hr1 := hs.reg c hc
  have HM := Lib.hid hM2
  obtain ⟨r, hr⟩ : ∃ r, s.R c = r := ⟨_, rfl⟩
  rw [hr] at cR hT hr1
  rw [HP.out] at hT
  have c0 : (0 : Int) ≤ (c : Int) := Int.natCast_nonneg _
  have c1 : (c : Int) < 16 := by omega
  have HO : Hid (Only (M.One mb) w w1) := Lib.hid (ho1'.mono (fun _ h => h.elim))
  clear hM2 hs hh hr x3 x4 x6 hneq hib
  have eL : ((pc : Int) + 1) % 4294967296 = ((pc + 1 : Nat) : Int) := by omega
  have eL' : IntKind.u32.wrap ((pc : Int) + 1) = ((pc + 1 : Nat) : Int) := by rw [IntKind.wrap_u32]; omega
  have eL2 : IntKind.i64.wrap ((pc : Int) + 1) = ((pc + 1 : Nat) : Int) := by rw [IntKind.wrap_i64]; omega
  have t1 : (t : Int) ≤ 1048576 := by omega
  have t0 : (0 : Int) ≤ (t : Int) := Int.natCast_nonneg _
  cases u
  · have e : r = t := Int.ofNat.inj (by simpa using hT)
    subst e
    clear hT
    cases v
    · go_wp2_with fail
      try (go_quiet (fail); go_wp2_with fail)
      try (go_quiet (fail); go_wp2_with fail)
      go_ret2
      refine ⟨rfl, by (repeat with_reducible first | exact HO.out | refine Only.drewN ?_ _ | refine Only.drew ?_ | refine Only.setOne ?_ _ _), ?_⟩
      exact (HM.out.quiet (by (repeat with_reducible first | exact Only.refl _ _ | refine Only.drewN ?_ _ | refine Only.drew ?_)))
    · have hc12 := hne rfl rfl
      have hc12' : (c : Int) ≠ 12 := by omega
      go_wp2_with fail
      try (go_quiet (fail); go_wp2_with fail)
      try (go_quiet (fail); go_wp2_with fail)
      go_region
      all_goals go_wp2_with fail
      all_goals go_ret2
      all_goals
        refine ⟨rfl, by (repeat with_reducible first | exact HO.out | refine Only.drewN ?_ _ | refine Only.drew ?_ | refine Only.setOne ?_ _ _), ?_⟩
        rw [← HP.out]
        exact (HM.out.quiet (M.Only.drewN (Only.refl _ _) _)).linkTo (s.pc + 1)
  · have e : (pc : Int) + 1 + m = (t : Int) := by simpa using hT
    clear hT hne
    cases v
    · go_wp2_with fail
      try (go_quiet (fail); go_wp2_with fail)
      try (go_quiet (fail); go_wp2_with fail)
      go_ret2
      refine ⟨rfl, by (repeat with_reducible first | exact HO.out | refine Only.drewN ?_ _ | refine Only.drew ?_ | refine Only.setOne ?_ _ _), ?_⟩

      exact (HM.out.quiet (by (repeat with_reducible first | exact Only.refl _ _ | refine Only.drewN ?_ _ | refine Only.drew ?_)))
    · go_wp2_with fail
      try (go_quiet (fail); go_wp2_with fail)
      try (go_quiet (fail); go_wp2_with fail)
      go_region
      all_goals go_wp2_with fail
      all_goals go_ret2
      all_goals
        refine ⟨rfl, by (repeat with_reducible first | exact HO.out | refine Only.drewN ?_ _ | refine Only.drew ?_ | refine Only.setOne ?_ _ _), ?_⟩
        rw [← HP.out]
        exact (HM.out.quiet (M.Only.drewN (Only.refl _ _) _)).linkTo (s.pc + 1)

end Go.Proofs.Ythimhbfglgnohaa

/- The document's machine's branch that ends a run; all of branch. -/
set_option linter.unusedSimpArgs false
set_option linter.unusedVariables false
namespace Go.Proofs.Ythimhbfglgnohaa
open Go.RowKit M
variable {Q : Nat → Prop}

set_option maxHeartbeats 1600000 in
theorem dbranch_end (mb wb : Nat) (ob : Option Nat) (code : List Nat) (a b o : Nat) (t : Nat) (ht : t ≤ 15) (ha : a < 16) (cv iv ov : Value) (s : St) (w : World) (hs : s.Ok) (htr : s.trap = 0) (hM : DAt Q w mb wb ob code s cv iv ov) (hh : holds s a = true) :
    Calls Try.prog 36 #[.pointer (some ⟨mb, 0, none⟩), ic 3 false true a b 12 o t] w fun e w' => e = .returned (.tuple #[.int .i64 s.pc, .bool true]) ∧ Only (M.One mb) w w' ∧ DAt Q w' mb wb ob code (ended s t) cv iv ov := by
  have cH := fun (w' : World) (ho : Only Nil w w') => dholds_any mb a ha cv _ iv ov s w' (hM.1.kept ho (fun h => h))
  rw [hh] at cH
  unfold ic
  go_enter Try.func36, Try.ntmps36
  go_wp2_with fail
  refine (cH _ ((Only.refl _ _).alloc _)).mono ?_
  rintro e w1 ⟨rfl, ho1⟩
  have i1 := insAt (ho1)
  have ho1' : Only Nil w w1 := ((Only.refl Nil w).alloc _).trans ho1 (fun _ _ h => h)
  obtain ⟨ib, hib⟩ : ∃ b, w.heap.size = b := ⟨_, rfl⟩
  have hneq : ib ≠ mb := by have := hM.1.lt; omega
  rw [hib] at i1 ⊢
  clear cH
  obtain ⟨x0, x1, x2, x3, x4, x5, x6, x7, x8⟩ := i1
  have hM2 := hM.quiet ho1'
  have c23 : w1.cell? ⟨mb, 23, none⟩ = some (.int .i64 s.pc) := hM2.1.cell 23
  have c26 : w1.cell? ⟨mb, 26, none⟩ = some (.int .i64 s.fin) := hM2.1.cell 26
  have f26 := hM2.1.free 26
  have c27 : w1.cell? ⟨mb, 27, none⟩ = some (.int .i64 s.trap) := hM2.1.cell 27
  have f27 := hM2.1.free 27
  have hlt1 := hM2.1.lt
  have HM := Lib.hid hM2
  have HO : Hid (Only (M.One mb) w w1) := Lib.hid (ho1'.mono (fun _ h => h.elim))
  have HTR := Lib.hid htr
  clear hM hM2 hs hh htr x3 x4 x6 hib
  by_cases h0 : t = 0
  · subst h0
    go_wp2_with fail
    try (go_region; all_goals go_wp2_with fail)
    all_goals go_ret2
    all_goals
      refine ⟨rfl, by (repeat with_reducible first | exact HO.out | refine Only.drewN ?_ _ | refine Only.drew ?_ | refine Only.setOne ?_ _ _), ?_⟩
      have e : ended s 0 = { s with fin := 1 } := by unfold ended; rw [if_pos rfl, ← HTR.out]
      rw [e]
      exact HM.out.endTo 1
  · have t1 : ((t : Int) != 0) = true := by rw [bne_iff_ne]; omega
    have t2 : wrap64 (t : Int) = (t : Int) := by unfold wrap64; omega
    go_wp2_with fail
    try (go_region; all_goals go_wp2_with fail)
    all_goals go_ret2
    all_goals
      refine ⟨rfl, by (repeat with_reducible first | exact HO.out | refine Only.drewN ?_ _ | refine Only.drew ?_ | refine Only.setOne ?_ _ _), ?_⟩
      have e : ended s t = { s with fin := 2, trap := t } := by unfold ended; rw [if_neg h0]
      rw [e]
      exact ((HM.out.endTo 1).endTo 2).trapTo t

/-- What a branch does: where it goes on, and what it leaves (the next instruction is not yet laid down). -/
theorem dbranch_of (mb wb : Nat) (ob : Option Nat) (code : List Nat) (u v : Bool) (a b c o : Nat) (m : Int) (h1 : -2147483648 ≤ m) (h2 : m ≤ 2147483647) (hm : u = false → 0 ≤ m ∧ m ≤ 15) (ha : a < 16) (hc : c < 16) (cv iv ov : Value) (s : St) (w : World) (hs : s.Ok) (htr : s.trap = 0) (hM : DAt Q w mb wb ob code s cv iv ov) :
    Calls Try.prog 36 #[.pointer (some ⟨mb, 0, none⟩), ic 3 u v a b c o m] w fun e w' => match M.branch s ⟨3, u, v, a, b, c, o, m⟩ with
      | some s' => e = .returned (.tuple #[.int .i64 s'.pc, .bool true]) ∧ Only (M.One mb) w w' ∧ DAt Q w' mb wb ob code { s' with pc := s.pc } cv iv ov
      | none => e = .returned (.tuple #[.int .i64 0, .bool false]) ∧ Only Nil w w' := by
  have hT0 : M.target s ⟨3, u, v, a, b, c, o, m⟩ = (if u then (s.pc : Int) + 1 + m else (s.R c : Int)) := by
    unfold M.target
    simp only [Int.toNat_natCast]
  unfold M.branch
  simp only [Int.toNat_natCast]
  cases hh : holds s a
  · rw [if_pos rfl]
    exact (dbranch_not mb wb ob code u v a b c o m h1 h2 ha hc cv iv ov s w hs hM hh).mono fun e w' h => ⟨h.1, h.2.mono (fun _ h => h.elim), hM.quiet h.2⟩
  · rw [if_neg (by decide)]
    by_cases h12 : u = false ∧ v = true ∧ (c : Int) = 12
    · rw [if_pos h12]
      obtain ⟨rfl, rfl, hc12⟩ := h12
      obtain ⟨m0, m1⟩ := hm rfl
      obtain ⟨t, rfl⟩ := Int.eq_ofNat_of_zero_le m0
      obtain rfl : c = 12 := by omega
      exact dbranch_end mb wb ob code a b o t (by omega) ha cv iv ov s w hs htr hM hh
    · rw [if_neg h12, hT0]
      have hne : u = false → v = true → c ≠ 12 := fun e1 e2 e3 => h12 ⟨e1, e2, by omega⟩
      obtain ⟨T, hT⟩ : ∃ T, (if u then (s.pc : Int) + 1 + m else (s.R c : Int)) = T := ⟨_, rfl⟩
      rw [hT]
      by_cases hb : T < 0 ∨ 1048576 < T
      · rw [if_pos hb]
        exact dbranch_far mb wb ob code u v a b c o m h1 h2 ha hc cv iv ov s w hs hM hh hne hT hb
      · rw [if_neg hb]
        obtain ⟨t, rfl⟩ := Int.eq_ofNat_of_zero_le (show 0 ≤ T by omega)
        have ht : t ≤ 1048576 := by omega
        exact dbranch_go mb wb ob code u v a b c o m h1 h2 ha hc cv iv ov s w hs hM hh hne hT ht
end Go.Proofs.Ythimhbfglgnohaa

