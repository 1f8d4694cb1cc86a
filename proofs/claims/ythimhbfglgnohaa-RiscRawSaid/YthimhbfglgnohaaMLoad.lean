/- The machine's load. -/
import Derived.Test.YthimhbfglgnohaaMAt
import Derived.StillTailTactics
import Derived.Deep.RegionWith
set_option linter.unusedSimpArgs false
set_option linter.unusedVariables false
namespace Go.Proofs.Ythimhbfglgnohaa
open Go.RowKit M
variable {Q : Nat → Prop}

theorem U32s_get (l : List Nat) (k : Nat) (h : k < l.length) : (U32s l).toArray[k]? = some (.int .u32 (l.getD k 0 : Nat)) := by
  simp [U32s, List.getD_eq_getElem?_getD, List.getElem?_eq_getElem h]

set_option maxHeartbeats 800000 in
theorem load_word (mb wb : Nat) (ob : Option Nat) (code : List Nat) (a b c o : Nat) (m : Int) (h1 : -2147483648 ≤ m) (h2 : m ≤ 2147483647) (ha : a < 16) (hb : b < 16) (cv iv ov : Value) (s : St) (w : World) (hs : s.Ok) (hM : MAt Q w mb wb ob code s cv iv ov) {p : Nat} (hp : (s.R b + U m) % 4294967296 = p) (hw : p % 4 = 0 ∧ p / 4 < s.mem.length) {q d : Nat} (hq : p / 4 = q) (hd' : s.mem.getD q 0 = d) :
    Calls Try.prog 44 #[.pointer (some ⟨mb, 0, none⟩), ic 2 false false a b c o m] w fun e w' => e = .returned (.bool true) ∧ Only (M.One mb) w w' ∧ MAt Q w' mb wb ob code (setR s a d) cv iv ov := by
  have hl := hs.len
  have hok : decide (p % 4 = 0 ∧ p / 4 < s.mem.length) = true := decide_eq_true hw
  have cP := fun (w' : World) (ho : Only Nil w w') => place_any mb 2 false false a b c o m hb h1 h2 cv _ iv ov s w' (hM.1.kept ho (fun h => h))
  have hp1 : p < 4294967296 := by omega
  have cW := fun (w' : World) (ho : Only Nil w w') => wordAt_any mb wb p hp1 cv iv ov s w' hl (hM.1.kept ho (fun h => h))
  rw [hp] at cP
  rw [hok] at cW
  rw [hq] at cW
  unfold ic at cP ⊢
  go_enter Try.func44, Try.ntmps44
  go_wp2_with fail
  refine (cP _ ((Only.refl _ _).alloc _)).mono ?_
  rintro e w1 ⟨rfl, ho1⟩
  have i1 := insAt (ho1)
  have ho1' : Only Nil w w1 := ((Only.refl Nil w).alloc _).trans ho1 (fun _ _ h => h)
  obtain ⟨ib, hib⟩ : ∃ b, w.heap.size = b := ⟨_, rfl⟩
  rw [hib] at i1 ⊢
  clear cP
  go_wp2_with fail
  refine (cW _ ho1').mono ?_
  rintro e w2 ⟨rfl, ho2⟩
  have ho2' : Only Nil w w2 := ho1'.trans ho2 (fun _ _ h => h)
  clear cW
  obtain ⟨x0, x1, x2, x3, x4, x5, x6, x7, x8⟩ := i1
  have y2 := ho2.cell x2 (fun h => h)
  have y3 := ho2.cell x3 (fun h => h)
  have hM2 := hM.quiet ho2'
  have hneq : ib ≠ mb := by have := hM.1.lt; omega
  clear x0 x1 x2 x3 x4 x5 x6 x7 hM
  have hlt1 := hM2.1.lt
  have hlt2 := ho2.size
  have c1 : w2.cell? ⟨mb, 1, none⟩ = some (.slice (some ⟨wb, 0, none⟩) s.mem.length s.mem.length) := hM2.1.cell 1
  have hd : s.mem.getD (p / 4) 0 < 4294967296 := by
    rw [List.getD_eq_getElem?_getD, List.getElem?_eq_getElem hw.2]
    exact hs.mem _ (List.getElem_mem _)
  have cw : w2.cell? ⟨wb, p / 4, none⟩ = some (.int .u32 (s.mem.getD (p / 4) 0 : Nat)) := (hM2.2.1.cell (p / 4)).trans (U32s_get _ _ hw.2)
  have cS := fun (w' : World) (ho : Only Nil w2 w') => set_any mb a (s.mem.getD (p / 4) 0) cv _ iv ov s w' (hM2.1.kept ho (fun h => h)) ha hd
  have hq0 : (p : Int) / 4 = (q : Int) := by omega
  rw [hq] at cw cS hd
  rw [hd'] at cw cS hd
  have HL := hw.2
  rw [hq] at HL
  obtain ⟨L, hL⟩ : ∃ L, s.mem.length = L := ⟨_, rfl⟩
  rw [hL] at c1 HL hl cS
  have HM := Lib.hid hM2
  have hm : Hid (s.mem.length = L) := Lib.hid hL
  clear hM2 hs hw hok hd hd' hp hq hL
  go_wp2_with fail
  go_still_tail 10, (by kernel_rfl)
  change wpList _ _ _ _ _ w2.drew
  go_wp2_with fail
  refine (cS _ (Only.refl _ _).drew).mono ?_
  rintro e w3 ⟨rfl, hB3, ho3d⟩
  have ho3 : Only (M.One mb) w2 w3 := (Only.refl _ w2).drew.trans ho3d (fun _ _ h => h)
  have ho3' : Only (M.One mb) w w3 := (ho2'.mono (fun _ h => h.elim)).trans ho3 (fun _ _ h => h)
  rw [← hm.out] at hB3
  have hM3 := HM.out.own ho3 hB3 rfl rfl rfl
  clear cS hB3 HM
  go_wp2_with fail
  go_ret
  exact ⟨rfl, ho3', hM3⟩

set_option maxHeartbeats 800000 in
theorem load_text (mb wb : Nat) (ob : Option Nat) (code : List Nat) (a b c o : Nat) (m : Int) (h1 : -2147483648 ≤ m) (h2 : m ≤ 2147483647) (ha : a < 16) (hb : b < 16) (cv iv ov : Value) (s : St) (w : World) (hs : s.Ok) (hM : MAt Q w mb wb ob code s cv iv ov) {p : Nat} (hp : (s.R b + U m) % 4294967296 = p) (hw : ¬ (p % 4 = 0 ∧ p / 4 < s.mem.length)) (h4 : p = 4294967232) {d : Nat} (hd' : s.inp.getD 0 0 = d) :
    Calls Try.prog 44 #[.pointer (some ⟨mb, 0, none⟩), ic 2 false false a b c o m] w fun e w' => ∃ iv', e = .returned (.bool true) ∧ Only (M.One mb) w w' ∧ MAt Q w' mb wb ob code (setR { s with inp := s.inp.drop 1 } a d) cv iv' ov := by
  have hl := hs.len
  have hok : decide (p % 4 = 0 ∧ p / 4 < s.mem.length) = false := decide_eq_false hw
  have cP := fun (w' : World) (ho : Only Nil w w') => place_any mb 2 false false a b c o m hb h1 h2 cv _ iv ov s w' (hM.1.kept ho (fun h => h))
  have hp1 : p < 4294967296 := by omega
  have cW := fun (w' : World) (ho : Only Nil w w') => wordAt_any mb wb p hp1 cv iv ov s w' hl (hM.1.kept ho (fun h => h))
  rw [hp] at cP
  rw [hok] at cW
  subst h4
  unfold ic at cP ⊢
  go_enter Try.func44, Try.ntmps44
  go_wp2_with fail
  refine (cP _ ((Only.refl _ _).alloc _)).mono ?_
  rintro e w1 ⟨rfl, ho1⟩
  have i1 := insAt (ho1)
  have ho1' : Only Nil w w1 := ((Only.refl Nil w).alloc _).trans ho1 (fun _ _ h => h)
  obtain ⟨ib, hib⟩ : ∃ b, w.heap.size = b := ⟨_, rfl⟩
  rw [hib] at i1 ⊢
  clear cP
  go_wp2_with fail
  refine (cW _ ho1').mono ?_
  rintro e w2 ⟨rfl, ho2⟩
  have ho2' : Only Nil w w2 := ho1'.trans ho2 (fun _ _ h => h)
  clear cW
  obtain ⟨x0, x1, x2, x3, x4, x5, x6, x7, x8⟩ := i1
  have y2 := ho2.cell x2 (fun h => h)
  have y3 := ho2.cell x3 (fun h => h)
  have hM2 := hM.quiet ho2'
  have hneq : ib ≠ mb := by have := hM.1.lt; omega
  clear x0 x1 x2 x3 x4 x5 x6 x7 hM
  have hlt1 := hM2.1.lt
  have hlt2 := ho2.size
  have cN := fun (w' : World) (ho : Only Nil w2 w') => next_any (Own4 Q mb wb ob) mb (Or.inl (Or.inl rfl)) cv _ iv ov s w' (hM2.quiet ho).1 (hM2.quiet ho).2.2.2.2.1 hs.inp
  have hd : s.inp.getD 0 0 < 4294967296 := by
    cases hin : s.inp with
    | nil => decide
    | cons x t => have := hs.inp x (by rw [hin]; exact List.mem_cons_self); simp only [List.getD_cons_zero]; omega
  rw [hd'] at cN hd
  have cS := fun (w' : World) (iv' : Value) (hB : Blk w' mb (icells cv (.slice (some ⟨wb, 0, none⟩) s.mem.length s.mem.length) iv' ov { s with inp := s.inp.drop 1 }) 65) => set_any mb a d cv _ iv' ov _ w' hB ha hd
  have HM := Lib.hid hM2
  have hne : ib ≠ mb := hneq
  clear hM2 hs hw hok hd' hp
  go_wp2_with fail
  go_region_with (first | (go_at_call 60; refine (cN _ ?_).mono ?_; (repeat with_reducible first | exact Only.refl _ _ | refine Only.drewN ?_ _ | refine Only.drew ?_); rintro e w3 ⟨rfl, iv', hB3, hI3, ho3⟩; have z3 := ho3.cell y3 (fun h => hne h)) | (go_at_call 59; refine (cS _ iv' (by (repeat with_reducible first | exact hB3 | refine Blk.drewN ?_ _ | refine Blk.drew ?_))).mono ?_; rintro e w4 ⟨rfl, hB4, ho4⟩))
  all_goals
    have hM3 := HM.out.in_ (s' := { s with inp := s.inp.drop 1 }) ((Only.refl _ w2).drew.trans ho3 (fun _ _ h => h)) hB3 rfl hI3 rfl
    have hM4 := hM3.own ho4 hB4 rfl rfl rfl
    have ho4' : Only (M.One mb) w w4 := (((ho2'.mono (fun _ h => h.elim)) : Only (M.One mb) w w2).drew.trans ho3 (fun _ _ h => h)).trans ho4 (fun _ _ h => h)
    clear hM3 HM hB3 hB4 hI3 z3 cN cS
    go_wp2_with fail
    go_ret
    exact ⟨iv', rfl, ho4', hM4⟩

set_option maxHeartbeats 800000 in
theorem load_end (mb wb : Nat) (ob : Option Nat) (code : List Nat) (a b c o : Nat) (m : Int) (h1 : -2147483648 ≤ m) (h2 : m ≤ 2147483647) (ha : a < 16) (hb : b < 16) (cv iv ov : Value) (s : St) (w : World) (hs : s.Ok) (hM : MAt Q w mb wb ob code s cv iv ov) {p : Nat} (hp : (s.R b + U m) % 4294967296 = p) (hw : ¬ (p % 4 = 0 ∧ p / 4 < s.mem.length)) (h4 : p = 4294967236) (hin : s.inp = []) :
    Calls Try.prog 44 #[.pointer (some ⟨mb, 0, none⟩), ic 2 false false a b c o m] w fun e w' => e = .returned (.bool true) ∧ Only (M.One mb) w w' ∧ MAt Q w' mb wb ob code (setR s a 1) cv iv ov := by
  have hl := hs.len
  have hok : decide (p % 4 = 0 ∧ p / 4 < s.mem.length) = false := decide_eq_false hw
  have cP := fun (w' : World) (ho : Only Nil w w') => place_any mb 2 false false a b c o m hb h1 h2 cv _ iv ov s w' (hM.1.kept ho (fun h => h))
  have hp1 : p < 4294967296 := by omega
  have cW := fun (w' : World) (ho : Only Nil w w') => wordAt_any mb wb p hp1 cv iv ov s w' hl (hM.1.kept ho (fun h => h))
  rw [hp] at cP
  rw [hok] at cW
  subst h4
  unfold ic at cP ⊢
  go_enter Try.func44, Try.ntmps44
  go_wp2_with fail
  refine (cP _ ((Only.refl _ _).alloc _)).mono ?_
  rintro e w1 ⟨rfl, ho1⟩
  have i1 := insAt (ho1)
  have ho1' : Only Nil w w1 := ((Only.refl Nil w).alloc _).trans ho1 (fun _ _ h => h)
  obtain ⟨ib, hib⟩ : ∃ b, w.heap.size = b := ⟨_, rfl⟩
  rw [hib] at i1 ⊢
  clear cP
  go_wp2_with fail
  refine (cW _ ho1').mono ?_
  rintro e w2 ⟨rfl, ho2⟩
  have ho2' : Only Nil w w2 := ho1'.trans ho2 (fun _ _ h => h)
  clear cW
  obtain ⟨x0, x1, x2, x3, x4, x5, x6, x7, x8⟩ := i1
  have y2 := ho2.cell x2 (fun h => h)
  have y3 := ho2.cell x3 (fun h => h)
  have hM2 := hM.quiet ho2'
  have hneq : ib ≠ mb := by have := hM.1.lt; omega
  clear x0 x1 x2 x3 x4 x5 x6 x7 hM
  have hlt1 := hM2.1.lt
  have hlt2 := ho2.size
  have c2 : w2.cell? ⟨mb, 2, none⟩ = some iv := hM2.1.cell 2
  have cS := set_any mb a 1 cv _ iv ov s w2 hM2.1 ha (by decide)
  have HM := Lib.hid hM2
  obtain ⟨ib', iao, icap, ioff, rfl, i2, i3, -⟩ := hM2.2.2.2.2.1
  have hlen : s.inp.length = 0 := by simpa using hin
  obtain ⟨L, hL⟩ : ∃ L, s.inp.length = L := ⟨_, rfl⟩
  rw [hL] at c2 hlen
  clear hs hw hok hp hin i2 i3 hL
  subst hlen
  go_wp2_with fail
  try (go_quiet (fail); go_wp2_with fail)
  refine cS.mono ?_
  rintro e w3 ⟨rfl, hB3, ho3⟩
  have ho3' : Only (M.One mb) w w3 := (ho2'.mono (fun _ h => h.elim)).trans ho3 (fun _ _ h => h)
  have hM3 := HM.out.own ho3 hB3 rfl rfl rfl
  clear cS hB3 HM
  go_wp2_with fail
  go_ret
  exact ⟨rfl, ho3', hM3⟩

set_option maxHeartbeats 800000 in
theorem load_more (mb wb : Nat) (ob : Option Nat) (code : List Nat) (a b c o : Nat) (m : Int) (h1 : -2147483648 ≤ m) (h2 : m ≤ 2147483647) (ha : a < 16) (hb : b < 16) (cv iv ov : Value) (s : St) (w : World) (hs : s.Ok) (hM : MAt Q w mb wb ob code s cv iv ov) {p : Nat} (hp : (s.R b + U m) % 4294967296 = p) (hw : ¬ (p % 4 = 0 ∧ p / 4 < s.mem.length)) (h4 : p = 4294967236) (hin : s.inp ≠ []) :
    Calls Try.prog 44 #[.pointer (some ⟨mb, 0, none⟩), ic 2 false false a b c o m] w fun e w' => e = .returned (.bool true) ∧ Only (M.One mb) w w' ∧ MAt Q w' mb wb ob code (setR s a 0) cv iv ov := by
  have hl := hs.len
  have hok : decide (p % 4 = 0 ∧ p / 4 < s.mem.length) = false := decide_eq_false hw
  have cP := fun (w' : World) (ho : Only Nil w w') => place_any mb 2 false false a b c o m hb h1 h2 cv _ iv ov s w' (hM.1.kept ho (fun h => h))
  have hp1 : p < 4294967296 := by omega
  have cW := fun (w' : World) (ho : Only Nil w w') => wordAt_any mb wb p hp1 cv iv ov s w' hl (hM.1.kept ho (fun h => h))
  rw [hp] at cP
  rw [hok] at cW
  subst h4
  unfold ic at cP ⊢
  go_enter Try.func44, Try.ntmps44
  go_wp2_with fail
  refine (cP _ ((Only.refl _ _).alloc _)).mono ?_
  rintro e w1 ⟨rfl, ho1⟩
  have i1 := insAt (ho1)
  have ho1' : Only Nil w w1 := ((Only.refl Nil w).alloc _).trans ho1 (fun _ _ h => h)
  obtain ⟨ib, hib⟩ : ∃ b, w.heap.size = b := ⟨_, rfl⟩
  rw [hib] at i1 ⊢
  clear cP
  go_wp2_with fail
  refine (cW _ ho1').mono ?_
  rintro e w2 ⟨rfl, ho2⟩
  have ho2' : Only Nil w w2 := ho1'.trans ho2 (fun _ _ h => h)
  clear cW
  obtain ⟨x0, x1, x2, x3, x4, x5, x6, x7, x8⟩ := i1
  have y2 := ho2.cell x2 (fun h => h)
  have y3 := ho2.cell x3 (fun h => h)
  have hM2 := hM.quiet ho2'
  have hneq : ib ≠ mb := by have := hM.1.lt; omega
  clear x0 x1 x2 x3 x4 x5 x6 x7 hM
  have hlt1 := hM2.1.lt
  have hlt2 := ho2.size
  have c2 : w2.cell? ⟨mb, 2, none⟩ = some iv := hM2.1.cell 2
  have cS := set_any mb a 0 cv _ iv ov s w2 hM2.1 ha (by decide)
  have HM := Lib.hid hM2
  obtain ⟨ib', iao, icap, ioff, rfl, i2, i3, -⟩ := hM2.2.2.2.2.1
  have hlen : s.inp.length ≠ 0 := by simpa using hin
  obtain ⟨L, hL⟩ : ∃ L, s.inp.length = L := ⟨_, rfl⟩
  rw [hL] at c2 hlen
  clear hs hw hok hp hin i2 i3 hL
  have hlen2 : (L : Int) ≠ 0 := by omega
  go_wp2_with fail
  try (go_quiet (fail); go_wp2_with fail)
  refine cS.mono ?_
  rintro e w3 ⟨rfl, hB3, ho3⟩
  have ho3' : Only (M.One mb) w w3 := (ho2'.mono (fun _ h => h.elim)).trans ho3 (fun _ _ h => h)
  have hM3 := HM.out.own ho3 hB3 rfl rfl rfl
  clear cS hB3 HM
  go_wp2_with fail
  go_ret
  exact ⟨rfl, ho3', hM3⟩

set_option maxHeartbeats 800000 in
theorem load_no (mb wb : Nat) (ob : Option Nat) (code : List Nat) (a b c o : Nat) (m : Int) (h1 : -2147483648 ≤ m) (h2 : m ≤ 2147483647) (ha : a < 16) (hb : b < 16) (cv iv ov : Value) (s : St) (w : World) (hs : s.Ok) (hM : MAt Q w mb wb ob code s cv iv ov) {p : Nat} (hp : (s.R b + U m) % 4294967296 = p) (hw : ¬ (p % 4 = 0 ∧ p / 4 < s.mem.length)) (h4 : p ≠ 4294967232) (h5 : p ≠ 4294967236) :
    Calls Try.prog 44 #[.pointer (some ⟨mb, 0, none⟩), ic 2 false false a b c o m] w fun e w' => e = .returned (.bool false) ∧ Only Nil w w' := by
  have hl := hs.len
  have hok : decide (p % 4 = 0 ∧ p / 4 < s.mem.length) = false := decide_eq_false hw
  have cP := fun (w' : World) (ho : Only Nil w w') => place_any mb 2 false false a b c o m hb h1 h2 cv _ iv ov s w' (hM.1.kept ho (fun h => h))
  have hp1 : p < 4294967296 := by omega
  have cW := fun (w' : World) (ho : Only Nil w w') => wordAt_any mb wb p hp1 cv iv ov s w' hl (hM.1.kept ho (fun h => h))
  rw [hp] at cP
  rw [hok] at cW
  have h4i : (p : Int) ≠ 4294967232 := by omega
  have h5i : (p : Int) ≠ 4294967236 := by omega
  unfold ic at cP ⊢
  go_enter Try.func44, Try.ntmps44
  go_wp2_with fail
  refine (cP _ ((Only.refl _ _).alloc _)).mono ?_
  rintro e w1 ⟨rfl, ho1⟩
  have i1 := insAt (ho1)
  have ho1' : Only Nil w w1 := ((Only.refl Nil w).alloc _).trans ho1 (fun _ _ h => h)
  obtain ⟨ib, hib⟩ : ∃ b, w.heap.size = b := ⟨_, rfl⟩
  rw [hib] at i1 ⊢
  clear cP
  go_wp2_with fail
  refine (cW _ ho1').mono ?_
  rintro e w2 ⟨rfl, ho2⟩
  have ho2' : Only Nil w w2 := ho1'.trans ho2 (fun _ _ h => h)
  clear cW
  obtain ⟨x0, x1, x2, x3, x4, x5, x6, x7, x8⟩ := i1
  have y2 := ho2.cell x2 (fun h => h)
  have y3 := ho2.cell x3 (fun h => h)
  have hM2 := hM.quiet ho2'
  have hneq : ib ≠ mb := by have := hM.1.lt; omega
  clear x0 x1 x2 x3 x4 x5 x6 x7 hM
  have hlt1 := hM2.1.lt
  have hlt2 := ho2.size
  clear hM2 hs hw hok hp
  go_wp2_with fail
  try (go_quiet (fail); go_wp2_with fail)
  go_ret
  exact ⟨rfl, ho2'⟩
end Go.Proofs.Ythimhbfglgnohaa
