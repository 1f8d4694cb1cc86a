/- The machine's store. -/
import Derived.Test.YthimhbfglgnohaaMLoad
import Derived.BigRegion
import Derived.RegionTactic
set_option linter.unusedSimpArgs false
set_option linter.unusedVariables false
namespace Go.Proofs.Ythimhbfglgnohaa
open Go.RowKit M
variable {Q : Nat → Prop}

theorem U32s_set (l : List Nat) (k x : Nat) : (U32s l).toArray.setIfInBounds k (.int .u32 (x : Nat)) = (U32s (l.set k x)).toArray := by
  simp [U32s, List.map_set]
theorem MAt.word {w w' : World} {mb wb : Nat} {ob : Option Nat} {code : List Nat} {s s' : St} {cv iv ov : Value} (h : MAt Q w mb wb ob code s cv iv ov) (ho : Only (M.One wb) w w')
    (hB : Blk w' wb (U32s s'.mem).toArray 26) (hl : s'.mem.length = s.mem.length) (hc : icells cv (.slice (some ⟨wb, 0, none⟩) s.mem.length s.mem.length) iv ov s' = icells cv (.slice (some ⟨wb, 0, none⟩) s.mem.length s.mem.length) iv ov s) (hi : s'.inp = s.inp) (hu : s'.out = s.out) : MAt Q w' mb wb ob code s' cv iv ov := by
  obtain ⟨h1, h2, h3, h4, h5, h6, h7, h8, h9⟩ := h
  refine ⟨by rw [hl, hc]; exact h1.kept ho (fun h => h3 h), hB, h3, h4.kept ho (fun _ h => Or.inl (Or.inr (Or.inl h))), by rw [hi]; exact h5.kept ho (fun _ h => Or.inl (Or.inr (Or.inl h))), ?_, h7, h8, h9⟩
  rw [hu]
  exact ownsRow_only h6 ho (fun k hk h => h9 (by rw [← h7, hk, show k = wb from h]))

set_option maxHeartbeats 800000 in
theorem store_v (mb wb : Nat) (ob : Option Nat) (code : List Nat) (a b c o : Nat) (m : Int) (h1 : -2147483648 ≤ m) (h2 : m ≤ 2147483647) (ha : a < 16) (hb : b < 16) (cv iv ov : Value) (s : St) (w : World) (hs : s.Ok) (hM : MAt Q w mb wb ob code s cv iv ov) {p : Nat} (hp : (s.R b + U m) % 4294967296 = p) :
    Calls Try.prog 43 #[.pointer (some ⟨mb, 0, none⟩), ic 2 true true a b c o m] w fun e w' => e = .returned (.bool false) ∧ Only Nil w w' := by
  have hl := hs.len
  obtain ⟨ok, hok⟩ : ∃ ok, decide (p % 4 = 0 ∧ p / 4 < s.mem.length) = ok := ⟨_, rfl⟩
  have cP := fun (w' : World) (ho : Only Nil w w') => place_any mb 2 true true a b c o m hb h1 h2 cv _ iv ov s w' (hM.1.kept ho (fun h => h))
  have hp1 : p < 4294967296 := by omega
  have cW := fun (w' : World) (ho : Only Nil w w') => wordAt_any mb wb p hp1 cv iv ov s w' hl (hM.1.kept ho (fun h => h))
  rw [hp] at cP
  rw [hok] at cW
  unfold ic at cP ⊢
  go_enter Try.func43, Try.ntmps43
  go_wp2_with fail
  refine (cP _ ((Only.refl _ _).alloc _)).mono ?_
  rintro e w1 ⟨rfl, ho1⟩
  have i1 := insAt (ho1)
  have ho1' : Only Nil w w1 := ((Only.refl Nil w).alloc _).trans ho1 (fun _ _ h => h)
  obtain ⟨ib, hib⟩ : ∃ b, w.heap.size = b := ⟨_, rfl⟩
  rw [hib] at i1 ⊢
  clear cP
  go_wp2_with fail
  refine (cW _ ho1').mono ?_
  rintro e w2 ⟨rfl, ho2⟩
  have ho2' : Only Nil w w2 := ho1'.trans ho2 (fun _ _ h => h)
  clear cW
  obtain ⟨x0, x1, x2, x3, x4, x5, x6, x7, x8⟩ := i1
  have y2 := ho2.cell x2 (fun h => h)
  have y3 := ho2.cell x3 (fun h => h)
  have hM2 := hM.quiet ho2'
  have hneq : ib ≠ mb := by have := hM.1.lt; omega
  clear x0 x1 x2 x3 x4 x5 x6 x7 hM
  have hlt1 := hM2.1.lt
  have hlt2 := ho2.size
  clear hM2 hs hok hp
  go_wp2_with fail
  go_ret
  exact ⟨rfl, ho2'⟩

set_option maxHeartbeats 800000 in
theorem store_no (mb wb : Nat) (ob : Option Nat) (code : List Nat) (a b c o : Nat) (m : Int) (h1 : -2147483648 ≤ m) (h2 : m ≤ 2147483647) (ha : a < 16) (hb : b < 16) (cv iv ov : Value) (s : St) (w : World) (hs : s.Ok) (hM : MAt Q w mb wb ob code s cv iv ov) {p : Nat} (hp : (s.R b + U m) % 4294967296 = p) (hw : ¬ (p % 4 = 0 ∧ p / 4 < s.mem.length)) (h4 : p ≠ 4294967232) :
    Calls Try.prog 43 #[.pointer (some ⟨mb, 0, none⟩), ic 2 true false a b c o m] w fun e w' => e = .returned (.bool false) ∧ Only Nil w w' := by
  have hl := hs.len
  have hok : decide (p % 4 = 0 ∧ p / 4 < s.mem.length) = false := decide_eq_false hw
  have cP := fun (w' : World) (ho : Only Nil w w') => place_any mb 2 true false a b c o m hb h1 h2 cv _ iv ov s w' (hM.1.kept ho (fun h => h))
  have hp1 : p < 4294967296 := by omega
  have cW := fun (w' : World) (ho : Only Nil w w') => wordAt_any mb wb p hp1 cv iv ov s w' hl (hM.1.kept ho (fun h => h))
  rw [hp] at cP
  rw [hok] at cW
  have h4i : (p : Int) ≠ 4294967232 := by omega
  unfold ic at cP ⊢
  go_enter Try.func43, Try.ntmps43
  go_wp2_with fail
  refine (cP _ ((Only.refl _ _).alloc _)).mono ?_
  rintro e w1 ⟨rfl, ho1⟩
  have i1 := insAt (ho1)
  have ho1' : Only Nil w w1 := ((Only.refl Nil w).alloc _).trans ho1 (fun _ _ h => h)
  obtain ⟨ib, hib⟩ : ∃ b, w.heap.size = b := ⟨_, rfl⟩
  rw [hib] at i1 ⊢
  clear cP
  go_wp2_with fail
  refine (cW _ ho1').mono ?_
  rintro e w2 ⟨rfl, ho2⟩
  have ho2' : Only Nil w w2 := ho1'.trans ho2 (fun _ _ h => h)
  clear cW
  obtain ⟨x0, x1, x2, x3, x4, x5, x6, x7, x8⟩ := i1
  have y2 := ho2.cell x2 (fun h => h)
  have y3 := ho2.cell x3 (fun h => h)
  have hM2 := hM.quiet ho2'
  have hneq : ib ≠ mb := by have := hM.1.lt; omega
  clear x0 x1 x2 x3 x4 x5 x6 x7 hM
  have hlt1 := hM2.1.lt
  have hlt2 := ho2.size
  clear hM2 hs hw hok hp
  go_wp2_with fail
  go_ret
  exact ⟨rfl, ho2'⟩

set_option maxHeartbeats 1600000 in
theorem store_word (mb wb : Nat) (ob : Option Nat) (code : List Nat) (a b c o : Nat) (m : Int) (h1 : -2147483648 ≤ m) (h2 : m ≤ 2147483647) (ha : a < 16) (hb : b < 16) (cv iv ov : Value) (s : St) (w : World) (hs : s.Ok) (hM : MAt Q w mb wb ob code s cv iv ov) {p : Nat} (hp : (s.R b + U m) % 4294967296 = p) (hw : p % 4 = 0 ∧ p / 4 < s.mem.length) {q : Nat} (hq : p / 4 = q) :
    Calls Try.prog 43 #[.pointer (some ⟨mb, 0, none⟩), ic 2 true false a b c o m] w fun e w' => e = .returned (.bool true) ∧ Only (Own3 mb wb ob) w w' ∧ MAt Q w' mb wb ob code { s with mem := s.mem.set q (s.R a) } cv iv ov := by
  have hl := hs.len
  have hok : decide (p % 4 = 0 ∧ p / 4 < s.mem.length) = true := decide_eq_true hw
  have cP := fun (w' : World) (ho : Only Nil w w') => place_any mb 2 true false a b c o m hb h1 h2 cv _ iv ov s w' (hM.1.kept ho (fun h => h))
  have hp1 : p < 4294967296 := by omega
  have cW := fun (w' : World) (ho : Only Nil w w') => wordAt_any mb wb p hp1 cv iv ov s w' hl (hM.1.kept ho (fun h => h))
  rw [hp] at cP
  rw [hok] at cW
  rw [hq] at cW
  unfold ic at cP ⊢
  go_enter Try.func43, Try.ntmps43
  go_wp2_with fail
  refine (cP _ ((Only.refl _ _).alloc _)).mono ?_
  rintro e w1 ⟨rfl, ho1⟩
  have i1 := insAt (ho1)
  have ho1' : Only Nil w w1 := ((Only.refl Nil w).alloc _).trans ho1 (fun _ _ h => h)
  obtain ⟨ib, hib⟩ : ∃ b, w.heap.size = b := ⟨_, rfl⟩
  rw [hib] at i1 ⊢
  clear cP
  go_wp2_with fail
  refine (cW _ ho1').mono ?_
  rintro e w2 ⟨rfl, ho2⟩
  have ho2' : Only Nil w w2 := ho1'.trans ho2 (fun _ _ h => h)
  clear cW
  obtain ⟨x0, x1, x2, x3, x4, x5, x6, x7, x8⟩ := i1
  have y2 := ho2.cell x2 (fun h => h)
  have y3 := ho2.cell x3 (fun h => h)
  have hM2 := hM.quiet ho2'
  have hneq : ib ≠ mb := by have := hM.1.lt; omega
  clear x0 x1 x2 x3 x4 x5 x6 x7 hM
  have hlt1 := hM2.1.lt
  have hlt2 := ho2.size
  have c1 : w2.cell? ⟨mb, 1, none⟩ = some (.slice (some ⟨wb, 0, none⟩) s.mem.length s.mem.length) := hM2.1.cell 1
  have cR := (hM2.1.cell (4 + a)).trans (icells_reg cv _ iv ov s ha)
  have cw : w2.cell? ⟨wb, q, none⟩ = some (.int .u32 (s.mem.getD q 0 : Nat)) := (hM2.2.1.cell q).trans (U32s_get _ _ (hq ▸ hw.2))
  have fw := hM2.2.1.free q
  have HL := hw.2
  rw [hq] at HL
  have hm2 : MAt Q (w2.drew.setCell ⟨wb, q, none⟩ (.int .u32 (s.R a))) mb wb ob code { s with mem := s.mem.set q (s.R a) } cv iv ov := by
    refine (hM2.quiet (Only.refl _ w2).drew).word (s' := { s with mem := s.mem.set q (s.R a) }) (((Only.refl (M.One wb) w2.drew)).setCell' (M.One wb) rfl _) ?_ (by simp) rfl rfl rfl
    have := (hM2.2.1.drew).setCell q (.int .u32 (s.R a : Nat))
    rw [U32s_set] at this
    exact this
  have HM := Lib.hid hm2
  have ho3 : Hid (Only (Own3 mb wb ob) w (w2.drew.setCell ⟨wb, q, none⟩ (.int .u32 (s.R a)))) := Lib.hid (((ho2'.mono (fun _ h => h.elim) : Only (Own3 mb wb ob) w w2).drew).setCell' (Own3 mb wb ob) (Or.inr (Or.inl rfl)) _)
  obtain ⟨r, hr⟩ : ∃ r, s.R a = r := ⟨_, rfl⟩
  rw [hr] at cR
  have hR := Lib.hid hr
  obtain ⟨L, hL⟩ : ∃ L, s.mem.length = L := ⟨_, rfl⟩
  rw [hL] at c1 HL hl
  have a0 : (0 : Int) ≤ (a : Int) := Int.natCast_nonneg _
  have a1 : (a : Int) < 16 := by omega
  have q0 : (0 : Int) ≤ (q : Int) := Int.natCast_nonneg _
  have q1 : (q : Int) < (L : Int) := by omega
  clear hm2 hM2 hs hw hok hp hq hL hr
  go_wp2_with fail
  go_region
  all_goals go_wp2_with fail
  all_goals go_ret
  all_goals
    have e := hR.out
    subst e
    exact ⟨rfl, ho3.out, HM.out⟩

end Go.Proofs.Ythimhbfglgnohaa
