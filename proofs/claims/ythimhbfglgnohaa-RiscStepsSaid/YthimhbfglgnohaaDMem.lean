/- The document's machine's loads and stores. -/
import Derived.Test.YthimhbfglgnohaaDBranch
import Derived.Test.YthimhbfglgnohaaMPlace
import Derived.Test.YthimhbfglgnohaaMStore
import Derived.Test.YthimhbfglgnohaaMOk
import Derived.StillTailTactics
import Derived.BigRegion
import Derived.RegionTactic
import Derived.Test.YthimhbfglgnohaaMLoad
import Derived.Test.YthimhbfglgnohaaMAt
import Derived.Test.YthimhbfglgnohaaMText
set_option linter.unusedSimpArgs false
set_option linter.unusedVariables false
namespace Go.Proofs.Ythimhbfglgnohaa
open Go.RowKit M
variable {Q : Nat → Prop}

set_option maxHeartbeats 1600000 in
theorem dmem_v (mb wb : Nat) (ob : Option Nat) (code : List Nat) (u : Bool) (a b c o : Nat) (m : Int) (h1 : -2147483648 ≤ m) (h2 : m ≤ 2147483647) (hb : b < 16) (cv iv ov : Value) (s : St) (w : World) (hM : DAt Q w mb wb ob code s cv iv ov) :
    Calls Try.prog 35 #[.pointer (some ⟨mb, 0, none⟩), ic 2 u true a b c o m] w fun e w' => e = .returned (.bool false) ∧ Only Nil w w' := by
  have cR := (hM.1.cell (2 + b)).trans (dcells_reg cv _ iv ov s hb)
  have hlt := hM.1.lt
  have b0 : (0 : Int) ≤ (b : Int) := Int.natCast_nonneg _
  have b1 : (b : Int) < 16 := by omega
  unfold ic
  clear hM
  go_enter Try.func35, Try.ntmps35
  go_wp2_with fail
  go_quiet (fail)
  go_wp2_with fail
  go_ret
  exact ⟨rfl, by (repeat with_reducible first | exact Only.refl _ _ | refine Only.alloc ?_ _ | refine Only.drewN ?_ _ | refine Only.drew ?_)⟩

set_option maxHeartbeats 1600000 in
theorem dload_no (mb wb : Nat) (ob : Option Nat) (code : List Nat) (a b c o : Nat) (m : Int) (h1 : -2147483648 ≤ m) (h2 : m ≤ 2147483647) (ha : a < 16) (hb : b < 16) (cv iv ov : Value) (s : St) (w : World) (hs : s.Ok) (hM : DAt Q w mb wb ob code s cv iv ov) {p : Nat} (hp : (s.R b + U m) % 4294967296 = p) (hw : ¬ (p % 4 = 0 ∧ p / 4 < s.mem.length)) (h4 : p ≠ 4294967232) (h5 : p ≠ 4294967236) :
    Calls Try.prog 35 #[.pointer (some ⟨mb, 0, none⟩), ic 2 false false a b c o m] w fun e w' => e = .returned (.bool false) ∧ Only Nil w w' := by
  have cR := (hM.1.cell (2 + b)).trans (dcells_reg cv _ iv ov s hb)
  have c1 : w.cell? ⟨mb, 1, none⟩ = some (.slice (some ⟨wb, 0, none⟩) s.mem.length s.mem.length) := hM.1.cell 1
  have hlt := hM.1.lt
  have hl := hs.len
  have b0 : (0 : Int) ≤ (b : Int) := Int.natCast_nonneg _
  have b1 : (b : Int) < 16 := by omega
  have hr := hs.reg b hb
  obtain ⟨r, hrr⟩ : ∃ r, s.R b = r := ⟨_, rfl⟩
  rw [hrr] at cR hp hr
  obtain ⟨n, hn⟩ : ∃ n, s.mem.length = n := ⟨_, rfl⟩
  rw [hn] at c1 hl hw
  have eP : ((r : Int) + m % 4294967296) % 4294967296 = (p : Int) := by rw [← hp]; unfold U; omega
  have t1 : ((p : Int) == 4294967232) = false := by rw [beq_eq_false_iff_ne]; omega
  have t2 : ((p : Int) == 4294967236) = false := by rw [beq_eq_false_iff_ne]; omega
  obtain ⟨q, hq⟩ : ∃ q, p / 4 = q := ⟨_, rfl⟩
  have eq4 : (p : Int) / 4 = (q : Int) := by omega
  have HW := Lib.hid hw
  unfold ic
  clear hM hs hp hrr hn h4 h5 ha hw
  by_cases hz : p % 4 = 0
  · have t3 : ((p : Int) % 4 != 0) = false := by rw [bne_eq_false_iff_eq]; omega
    have t4 : (n : Int) ≤ (q : Int) := by have := HW.out; omega
    clear hz hq
    go_enter Try.func35, Try.ntmps35
    go_wp2_with fail
    go_quiet (fail)
    go_wp2_with fail
    go_ret
    exact ⟨rfl, by (repeat with_reducible first | exact Only.refl _ _ | refine Only.alloc ?_ _ | refine Only.drewN ?_ _ | refine Only.drew ?_)⟩
  · have t3 : ((p : Int) % 4 != 0) = true := by rw [bne_iff_ne]; omega
    clear hz hq
    go_enter Try.func35, Try.ntmps35
    go_wp2_with fail
    go_quiet (fail)
    go_wp2_with fail
    go_ret
    exact ⟨rfl, by (repeat with_reducible first | exact Only.refl _ _ | refine Only.alloc ?_ _ | refine Only.drewN ?_ _ | refine Only.drew ?_)⟩

set_option maxHeartbeats 1600000 in
theorem dstore_no (mb wb : Nat) (ob : Option Nat) (code : List Nat) (a b c o : Nat) (m : Int) (h1 : -2147483648 ≤ m) (h2 : m ≤ 2147483647) (ha : a < 16) (hb : b < 16) (cv iv ov : Value) (s : St) (w : World) (hs : s.Ok) (hM : DAt Q w mb wb ob code s cv iv ov) {p : Nat} (hp : (s.R b + U m) % 4294967296 = p) (hw : ¬ (p % 4 = 0 ∧ p / 4 < s.mem.length)) (h4 : p ≠ 4294967232) :
    Calls Try.prog 35 #[.pointer (some ⟨mb, 0, none⟩), ic 2 true false a b c o m] w fun e w' => e = .returned (.bool false) ∧ Only Nil w w' := by
  have cR := (hM.1.cell (2 + b)).trans (dcells_reg cv _ iv ov s hb)
  have c1 : w.cell? ⟨mb, 1, none⟩ = some (.slice (some ⟨wb, 0, none⟩) s.mem.length s.mem.length) := hM.1.cell 1
  have hlt := hM.1.lt
  have hl := hs.len
  have b0 : (0 : Int) ≤ (b : Int) := Int.natCast_nonneg _
  have b1 : (b : Int) < 16 := by omega
  have hr := hs.reg b hb
  obtain ⟨r, hrr⟩ : ∃ r, s.R b = r := ⟨_, rfl⟩
  rw [hrr] at cR hp hr
  obtain ⟨n, hn⟩ : ∃ n, s.mem.length = n := ⟨_, rfl⟩
  rw [hn] at c1 hl hw
  have eP : ((r : Int) + m % 4294967296) % 4294967296 = (p : Int) := by rw [← hp]; unfold U; omega
  have t1 : ((p : Int) == 4294967232) = false := by rw [beq_eq_false_iff_ne]; omega
  obtain ⟨q, hq⟩ : ∃ q, p / 4 = q := ⟨_, rfl⟩
  have eq4 : (p : Int) / 4 = (q : Int) := by omega
  have HW := Lib.hid hw
  unfold ic
  clear hM hs hp hrr hn h4 ha hw
  rcases (show ((p : Int) == 4294967236) = true ∨ ((p : Int) == 4294967236) = false by cases ((p : Int) == 4294967236) <;> simp) with t2 | t2
  all_goals
   by_cases hz : p % 4 = 0
   · have t3 : ((p : Int) % 4 != 0) = false := by rw [bne_eq_false_iff_eq]; omega
     have t4 : (n : Int) ≤ (q : Int) := by have := HW.out; omega
     clear hz hq
     go_enter Try.func35, Try.ntmps35
     go_wp2_with fail
     go_quiet (fail)
     go_wp2_with fail
     go_ret
     exact ⟨rfl, by (repeat with_reducible first | exact Only.refl _ _ | refine Only.alloc ?_ _ | refine Only.drewN ?_ _ | refine Only.drew ?_)⟩
   · have t3 : ((p : Int) % 4 != 0) = true := by rw [bne_iff_ne]; omega
     clear hz hq
     go_enter Try.func35, Try.ntmps35
     go_wp2_with fail
     go_quiet (fail)
     go_wp2_with fail
     go_ret
     exact ⟨rfl, by (repeat with_reducible first | exact Only.refl _ _ | refine Only.alloc ?_ _ | refine Only.drewN ?_ _ | refine Only.drew ?_)⟩

set_option maxHeartbeats 1600000 in
theorem dload_end (mb wb : Nat) (ob : Option Nat) (code : List Nat) (a b c o : Nat) (m : Int) (h1 : -2147483648 ≤ m) (h2 : m ≤ 2147483647) (ha : a < 16) (hb : b < 16) (cv iv ov : Value) (s : St) (w : World) (hs : s.Ok) (hM : DAt Q w mb wb ob code s cv iv ov) {p : Nat} (hp : (s.R b + U m) % 4294967296 = p) (h5 : p = 4294967236) (hin : s.inp = []) :
    Calls Try.prog 35 #[.pointer (some ⟨mb, 0, none⟩), ic 2 false false a b c o m] w fun e w' => e = .returned (.bool true) ∧ Only (M.One mb) w w' ∧ DAt Q w' mb wb ob code (setR s a 1) cv iv ov := by
  have cR := (hM.1.cell (2 + b)).trans (dcells_reg cv _ iv ov s hb)
  have c24 : w.cell? ⟨mb, 24, none⟩ = some iv := hM.1.cell 24
  obtain ⟨bi, ai, capi, offi, ei, _⟩ := hM.2.2.2.2.1
  subst ei
  have hlt := hM.1.lt
  have b0 : (0 : Int) ≤ (b : Int) := Int.natCast_nonneg _
  have b1 : (b : Int) < 16 := by omega
  have hr := hs.reg b hb
  obtain ⟨r, hrr⟩ : ∃ r, s.R b = r := ⟨_, rfl⟩
  rw [hrr] at cR hp hr
  have eP : ((r : Int) + m % 4294967296) % 4294967296 = (p : Int) := by rw [← hp]; unfold U; omega
  have t1 : ((p : Int) == 4294967232) = false := by rw [beq_eq_false_iff_ne]; omega
  have t2 : ((p : Int) == 4294967236) = true := by rw [beq_iff_eq]; omega
  have e0 : s.inp.length = 0 := by rw [hin]; rfl
  rw [e0] at c24
  have cS := fun (w' : World) (ho : Only Nil w w') => dset_any mb a 1 cv _ _ ov s w' ((hM.quiet ho).1) ha (by decide)
  have HM := Lib.hid hM
  have HC := Lib.hid cS
  unfold ic
  clear hM hs hp hrr h5 cS
  go_enter Try.func35, Try.ntmps35
  go_wp2_with fail
  go_quiet (fail)
  go_wp2_with fail
  refine (HC.out _ (by (repeat with_reducible first | exact Only.refl _ _ | refine Only.alloc ?_ _ | refine Only.drewN ?_ _ | refine Only.drew ?_))).mono ?_
  rintro e w3 ⟨rfl, hB3, ho3⟩
  have ho0 : Only (M.One mb) w w3 := Only.trans (T := M.One mb) (by (repeat with_reducible first | exact Only.refl _ _ | refine Only.alloc ?_ _ | refine Only.drewN ?_ _ | refine Only.drew ?_)) ho3 (fun _ _ h => h)
  have H3 := Lib.hid hB3
  have HO3 := Lib.hid ho0
  clear hB3 ho3 ho0
  go_wp2_with fail
  go_ret
  exact ⟨rfl, HO3.out, HM.out.own HO3.out H3.out rfl rfl rfl⟩

set_option maxHeartbeats 1600000 in
theorem dload_more (mb wb : Nat) (ob : Option Nat) (code : List Nat) (a b c o : Nat) (m : Int) (h1 : -2147483648 ≤ m) (h2 : m ≤ 2147483647) (ha : a < 16) (hb : b < 16) (cv iv ov : Value) (s : St) (w : World) (hs : s.Ok) (hM : DAt Q w mb wb ob code s cv iv ov) {p : Nat} (hp : (s.R b + U m) % 4294967296 = p) (h5 : p = 4294967236) (hin : s.inp ≠ []) :
    Calls Try.prog 35 #[.pointer (some ⟨mb, 0, none⟩), ic 2 false false a b c o m] w fun e w' => e = .returned (.bool true) ∧ Only (M.One mb) w w' ∧ DAt Q w' mb wb ob code (setR s a 0) cv iv ov := by
  have cR := (hM.1.cell (2 + b)).trans (dcells_reg cv _ iv ov s hb)
  have c24 : w.cell? ⟨mb, 24, none⟩ = some iv := hM.1.cell 24
  obtain ⟨bi, ai, capi, offi, ei, _⟩ := hM.2.2.2.2.1
  subst ei
  have hlt := hM.1.lt
  have b0 : (0 : Int) ≤ (b : Int) := Int.natCast_nonneg _
  have b1 : (b : Int) < 16 := by omega
  have hr := hs.reg b hb
  obtain ⟨r, hrr⟩ : ∃ r, s.R b = r := ⟨_, rfl⟩
  rw [hrr] at cR hp hr
  have eP : ((r : Int) + m % 4294967296) % 4294967296 = (p : Int) := by rw [← hp]; unfold U; omega
  have t1 : ((p : Int) == 4294967232) = false := by rw [beq_eq_false_iff_ne]; omega
  have t2 : ((p : Int) == 4294967236) = true := by rw [beq_iff_eq]; omega
  have e0 : 0 < s.inp.length := List.length_pos_iff.2 hin
  obtain ⟨l, hll⟩ : ∃ l, s.inp.length = l := ⟨_, rfl⟩
  rw [hll] at c24 e0
  have e1 : ((l : Int) == 0) = false := by rw [beq_eq_false_iff_ne]; omega
  have cS := fun (w' : World) (ho : Only Nil w w') => dset_any mb a 0 cv _ _ ov s w' ((hM.quiet ho).1) ha (by decide)
  have HM := Lib.hid hM
  have HC := Lib.hid cS
  unfold ic
  clear hM hs hp hrr h5 cS
  go_enter Try.func35, Try.ntmps35
  go_wp2_with fail
  go_quiet (fail)
  go_wp2_with fail
  refine (HC.out _ (by (repeat with_reducible first | exact Only.refl _ _ | refine Only.alloc ?_ _ | refine Only.drewN ?_ _ | refine Only.drew ?_))).mono ?_
  rintro e w3 ⟨rfl, hB3, ho3⟩
  have ho0 : Only (M.One mb) w w3 := Only.trans (T := M.One mb) (by (repeat with_reducible first | exact Only.refl _ _ | refine Only.alloc ?_ _ | refine Only.drewN ?_ _ | refine Only.drew ?_)) ho3 (fun _ _ h => h)
  have H3 := Lib.hid hB3
  have HO3 := Lib.hid ho0
  clear hB3 ho3 ho0
  go_wp2_with fail
  go_ret
  exact ⟨rfl, HO3.out, HM.out.own HO3.out H3.out rfl rfl rfl⟩

end Go.Proofs.Ythimhbfglgnohaa

/- The document's machine's loads and stores of words. -/
set_option linter.unusedSimpArgs false
set_option linter.unusedVariables false
namespace Go.Proofs.Ythimhbfglgnohaa
open Go.RowKit M
variable {Q : Nat → Prop}

theorem DAt.word {w w' : World} {mb wb : Nat} {ob : Option Nat} {code : List Nat} {s s' : St} {cv iv ov : Value} (h : DAt Q w mb wb ob code s cv iv ov) (ho : Only (M.One wb) w w')
    (hB : Blk w' wb (U32s s'.mem).toArray 26) (hl : s'.mem.length = s.mem.length) (hc : dcells cv (.slice (some ⟨wb, 0, none⟩) s.mem.length s.mem.length) iv ov s' = dcells cv (.slice (some ⟨wb, 0, none⟩) s.mem.length s.mem.length) iv ov s) (hi : s'.inp = s.inp) (hu : s'.out = s.out) : DAt Q w' mb wb ob code s' cv iv ov := by
  obtain ⟨h1, h2, h3, h4, h5, h6, h7, h8, h9⟩ := h
  refine ⟨by rw [hl, hc]; exact h1.kept ho (fun h => h3 h), hB, h3, h4.kept ho (fun _ h => Or.inl (Or.inr (Or.inl h))), by rw [hi]; exact h5.kept ho (fun _ h => Or.inl (Or.inr (Or.inl h))), ?_, h7, h8, h9⟩
  rw [hu]
  exact ownsRow_only h6 ho (fun k hk h => h9 (by rw [← h7, hk, show k = wb from h]))

set_option maxHeartbeats 1600000 in
theorem dstore_word (mb wb : Nat) (ob : Option Nat) (code : List Nat) (a b c o : Nat) (m : Int) (h1 : -2147483648 ≤ m) (h2 : m ≤ 2147483647) (ha : a < 16) (hb : b < 16) (cv iv ov : Value) (s : St) (w : World) (hs : s.Ok) (hM : DAt Q w mb wb ob code s cv iv ov) {p : Nat} (hp : (s.R b + U m) % 4294967296 = p) (hw : p % 4 = 0 ∧ p / 4 < s.mem.length) {q : Nat} (hq : p / 4 = q) :
    Calls Try.prog 35 #[.pointer (some ⟨mb, 0, none⟩), ic 2 true false a b c o m] w fun e w' => e = .returned (.bool true) ∧ Only (Own3 mb wb ob) w w' ∧ DAt Q w' mb wb ob code { s with mem := s.mem.set q (s.R a) } cv iv ov := by
  have cR := (hM.1.cell (2 + b)).trans (dcells_reg cv _ iv ov s hb)
  have cA := (hM.1.cell (2 + a)).trans (dcells_reg cv _ iv ov s ha)
  have c1 : w.cell? ⟨mb, 1, none⟩ = some (.slice (some ⟨wb, 0, none⟩) s.mem.length s.mem.length) := hM.1.cell 1
  have cw : w.cell? ⟨wb, q, none⟩ = some (.int .u32 (s.mem.getD q 0 : Nat)) := (hM.2.1.cell q).trans (U32s_get _ _ (by rw [← hq]; exact hw.2))
  have fw := hM.2.1.free q
  have hlt := hM.1.lt
  have hlw := hM.2.1.lt
  have hneq := hM.2.2.1
  have hl := hs.len
  have b0 : (0 : Int) ≤ (b : Int) := Int.natCast_nonneg _
  have b1 : (b : Int) < 16 := by omega
  have a0 : (0 : Int) ≤ (a : Int) := Int.natCast_nonneg _
  have a1 : (a : Int) < 16 := by omega
  have hr := hs.reg b hb
  obtain ⟨r, hrr⟩ : ∃ r, s.R b = r := ⟨_, rfl⟩
  rw [hrr] at cR hp hr
  have hq2 : q < s.mem.length := by rw [← hq]; exact hw.2
  have HQ2 := Lib.hid hq2
  obtain ⟨n, hn⟩ : ∃ n, s.mem.length = n := ⟨_, rfl⟩
  rw [hn] at c1 hl hw
  have HN := Lib.hid hn
  have eP : ((r : Int) + m % 4294967296) % 4294967296 = (p : Int) := by rw [← hp]; unfold U; omega
  have t1 : ((p : Int) == 4294967232) = false := by rw [beq_eq_false_iff_ne]; omega
  have t2 : ((p : Int) == 4294967236) = false := by rw [beq_eq_false_iff_ne]; omega
  have eq4 : (p : Int) / 4 = (q : Int) := by omega
  have t3 : ((p : Int) % 4 != 0) = false := by rw [bne_eq_false_iff_eq]; omega
  have t4 : (q : Int) < (n : Int) := by omega
  have t5 : (0 : Int) ≤ (q : Int) := Int.natCast_nonneg _
  have HM := Lib.hid hM
  unfold ic
  clear hM hs hp hrr hn ha hw hq hq2
  go_enter Try.func35, Try.ntmps35
  go_wp2_with fail
  go_quiet (fail)
  go_wp2_with fail
  go_region
  all_goals go_wp2_with fail
  all_goals go_ret
  all_goals
    refine ⟨rfl, (M.Only.drewN (Only.alloc (Only.refl (Own3 mb wb ob) w) _) _).setCell' (Own3 mb wb ob) (Or.inr (Or.inl rfl)) _, ?_⟩
    have hM2 := HM.out.quiet (M.Only.drewN (Only.alloc (Only.refl Nil w) (.cells #[Value.int .i64 2, .bool true, .bool false, .int .i64 a, .int .i64 b, .int .i64 c, .int .i64 o, .int .i32 m] 49)) (nq + 1))
    have hB2 := hM2.2.1.setCell q (.int .u32 (s.R a))
    rw [U32s_set] at hB2
    exact hM2.word (s' := { s with mem := s.mem.set q (s.R a) }) (Only.setOne (Only.refl _ _) _ _) hB2 (by simp) rfl rfl rfl
end Go.Proofs.Ythimhbfglgnohaa

/- The document's machine's loads of words. -/
set_option linter.unusedSimpArgs false
set_option linter.unusedVariables false
namespace Go.Proofs.Ythimhbfglgnohaa
open Go.RowKit M
variable {Q : Nat → Prop}

set_option maxHeartbeats 1600000 in
theorem dload_word (mb wb : Nat) (ob : Option Nat) (code : List Nat) (a b c o : Nat) (m : Int) (h1 : -2147483648 ≤ m) (h2 : m ≤ 2147483647) (ha : a < 16) (hb : b < 16) (cv iv ov : Value) (s : St) (w : World) (hs : s.Ok) (hM : DAt Q w mb wb ob code s cv iv ov) {p : Nat} (hp : (s.R b + U m) % 4294967296 = p) (hw : p % 4 = 0 ∧ p / 4 < s.mem.length) {q d : Nat} (hq : p / 4 = q) (hd' : s.mem.getD q 0 = d) :
    Calls Try.prog 35 #[.pointer (some ⟨mb, 0, none⟩), ic 2 false false a b c o m] w fun e w' => e = .returned (.bool true) ∧ Only (M.One mb) w w' ∧ DAt Q w' mb wb ob code (setR s a d) cv iv ov := by
  have cR := (hM.1.cell (2 + b)).trans (dcells_reg cv _ iv ov s hb)
  have c1 : w.cell? ⟨mb, 1, none⟩ = some (.slice (some ⟨wb, 0, none⟩) s.mem.length s.mem.length) := hM.1.cell 1
  have cw : w.cell? ⟨wb, q, none⟩ = some (.int .u32 (s.mem.getD q 0 : Nat)) := (hM.2.1.cell q).trans (U32s_get _ _ (by rw [← hq]; exact hw.2))
  have hlt := hM.1.lt
  have hlw := hM.2.1.lt
  have hl := hs.len
  have hd32 : d < 4294967296 := by
    rw [← hd', List.getD_eq_getElem?_getD, List.getElem?_eq_getElem (by rw [← hq]; exact hw.2)]
    exact hs.mem _ (List.getElem_mem _)
  rw [hd'] at cw
  have cS := fun (w' : World) (ho : Only Nil w w') => dset_any mb a d cv _ iv ov s w' (hM.1.kept ho (fun h => h)) ha hd32
  have b0 : (0 : Int) ≤ (b : Int) := Int.natCast_nonneg _
  have b1 : (b : Int) < 16 := by omega
  have hr := hs.reg b hb
  obtain ⟨r, hrr⟩ : ∃ r, s.R b = r := ⟨_, rfl⟩
  rw [hrr] at cR hp hr
  obtain ⟨n, hn⟩ : ∃ n, s.mem.length = n := ⟨_, rfl⟩
  rw [hn] at c1 hl hw cS
  have HN := Lib.hid hn
  have eP : ((r : Int) + m % 4294967296) % 4294967296 = (p : Int) := by rw [← hp]; unfold U; omega
  have t1 : ((p : Int) == 4294967232) = false := by rw [beq_eq_false_iff_ne]; omega
  have t2 : ((p : Int) == 4294967236) = false := by rw [beq_eq_false_iff_ne]; omega
  have eq4 : (p : Int) / 4 = (q : Int) := by omega
  have t3 : ((p : Int) % 4 != 0) = false := by rw [bne_eq_false_iff_eq]; omega
  have t4 : (q : Int) < (n : Int) := by omega
  have t5 : (0 : Int) ≤ (q : Int) := Int.natCast_nonneg _
  have t6 : q < n := by omega
  have i1 := insAt (w := w) (F := 2) (u := false) (v := false) (a := a) (b := b) (c := c) (o := o) (m := m) (Only.refl Nil (w.alloc (.cells (icz 2 false false a b c o m) 49)))
  have HI := Lib.hid i1
  have HM := Lib.hid hM
  have HCS := Lib.hid cS
  have HCW := Lib.hid cw
  have HC1 := Lib.hid c1
  have hoa : Only Nil w (w.alloc (.cells (icz 2 false false a b c o m) 49)) := (Only.refl Nil w).alloc _
  have HOA := Lib.hid hoa
  unfold ic
  clear hM hs hp hrr hn ha hw hq i1 cS hoa
  go_enter Try.func35, Try.ntmps35
  go_wp2_with fail
  go_quiet (fail)
  go_wp2_with fail
  have ho1 : Only Nil w (World.drewN (w.alloc (.cells #[.int .i64 2, .bool false, .bool false, .int .i64 a, .int .i64 b, .int .i64 c, .int .i64 o, .int .i32 m] 49)) nq) := M.Only.drewN HOA.out nq
  have i2 := HI.out
  unfold InsAt at i2
  obtain ⟨w2, hw2⟩ : ∃ w2, World.drewN (w.alloc (.cells #[.int .i64 2, .bool false, .bool false, .int .i64 a, .int .i64 b, .int .i64 c, .int .i64 o, .int .i32 m] 49)) nq = w2 := ⟨_, rfl⟩
  have x3 : w2.cell? ⟨w.heap.size, 3, none⟩ = some (.int .i64 a) := by rw [← hw2]; exact i2.2.2.2.1
  rw [hw2] at ho1 ⊢
  have y1 := ho1.cell HC1.out (fun h => h)
  have yw := ho1.cell HCW.out (fun h => h)
  obtain ⟨ib, hib⟩ : ∃ ib, w.heap.size = ib := ⟨_, rfl⟩
  rw [hib] at x3 ⊢
  have hne : ib ≠ mb := by omega
  clear hw2 i2 cR c1 cw
  simp only [eP]
  have ewq : IntKind.u32.wrap (q : Int) = (q : Int) := by rw [IntKind.wrap_u32]; omega
  refine wp_region_still_tail 11 (by kernel_rfl) (by kernel_rfl) ?_
  simp only [List.take_succ_cons, List.take_zero, List.drop_succ_cons, List.drop_zero]
  simp only [World.drew_eq]
  repeat still_step
  (try refine wpStill_nil ?_)
  have cS2 := HCS.out w2.drew ho1.drew
  have HO1 := Lib.hid ho1
  clear y1 yw x3 ho1
  go_wp2_with fail
  refine cS2.mono ?_
  rintro e w3 ⟨rfl, hB3, ho3⟩
  have ho0 : Only (M.One mb) w w3 := Only.trans (T := M.One mb) (HO1.out.drew.mono (fun _ h => h.elim)) ho3 (fun _ _ h => h)
  rw [← HN.out] at hB3
  have H3 := Lib.hid hB3
  have HO3 := Lib.hid ho0
  clear hB3 ho3 ho0 cS2
  go_wp2_with fail
  go_ret
  exact ⟨rfl, HO3.out, HM.out.own HO3.out H3.out rfl rfl rfl⟩
end Go.Proofs.Ythimhbfglgnohaa

/- The document's machine's load of a byte of the input. -/
set_option linter.unusedSimpArgs false
set_option linter.unusedVariables false
namespace Go.Proofs.Ythimhbfglgnohaa
open Go.RowKit M
variable {Q : Nat → Prop}

theorem DAt.in_ {w w' : World} {mb wb : Nat} {ob : Option Nat} {code : List Nat} {s s' : St} {cv iv iv' ov : Value} (h : DAt Q w mb wb ob code s cv iv ov) (ho : Only (M.One mb) w w')
    (hB : Blk w' mb (dcells cv (.slice (some ⟨wb, 0, none⟩) s.mem.length s.mem.length) iv' ov s') 68) (hm : s'.mem = s.mem) (hi : BRow (Own4 Q mb wb ob) w' iv' s'.inp) (hu : s'.out = s.out) : DAt Q w' mb wb ob code s' cv iv' ov := by
  obtain ⟨h1, h2, h3, h4, h5, h6, h7, h8, h9⟩ := h
  refine ⟨by rw [hm]; exact hB, by rw [hm]; exact h2.kept ho (fun h => h3 h.symm), h3, h4.kept ho own3_one, hi, ?_, h7, h8, h9⟩
  rw [hu]
  exact ownsRow_only h6 ho (fun k hk h => h8 (by rw [← h7, hk, show k = mb from h]))

set_option maxHeartbeats 1600000 in
theorem dload_text (mb wb : Nat) (ob : Option Nat) (code : List Nat) (a b c o : Nat) (m : Int) (h1 : -2147483648 ≤ m) (h2 : m ≤ 2147483647) (ha : a < 16) (hb : b < 16) (cv iv ov : Value) (s : St) (w : World) (hs : s.Ok) (hM : DAt Q w mb wb ob code s cv iv ov) {p : Nat} (hp : (s.R b + U m) % 4294967296 = p) (h4 : p = 4294967232) {d : Nat} (hd' : s.inp.getD 0 0 = d) :
    Calls Try.prog 35 #[.pointer (some ⟨mb, 0, none⟩), ic 2 false false a b c o m] w fun e w' => ∃ iv', e = .returned (.bool true) ∧ Only (M.One mb) w w' ∧ DAt Q w' mb wb ob code (setR { s with inp := s.inp.drop 1 } a d) cv iv' ov := by
  have cR := (hM.1.cell (2 + b)).trans (dcells_reg cv _ iv ov s hb)
  have c24 : w.cell? ⟨mb, 24, none⟩ = some iv := hM.1.cell 24
  have f24 := hM.1.free 24
  have hI := hM.2.2.2.2.1
  have hinp := hs.inp
  have hlt := hM.1.lt
  have hl := hs.len
  have b0 : (0 : Int) ≤ (b : Int) := Int.natCast_nonneg _
  have b1 : (b : Int) < 16 := by omega
  have hr := hs.reg b hb
  obtain ⟨r, hrr⟩ : ∃ r, s.R b = r := ⟨_, rfl⟩
  rw [hrr] at cR hp hr
  have eP : ((r : Int) + m % 4294967296) % 4294967296 = (p : Int) := by rw [← hp]; unfold U; omega
  have t1 : ((p : Int) == 4294967232) = true := by rw [beq_iff_eq]; omega
  have i1 := insAt (w := w) (F := 2) (u := false) (v := false) (a := a) (b := b) (c := c) (o := o) (m := m) (Only.refl Nil (w.alloc (.cells (icz 2 false false a b c o m) 49)))
  have hoa : Only Nil w (w.alloc (.cells (icz 2 false false a b c o m) 49)) := (Only.refl Nil w).alloc _
  obtain ⟨bi, ai, capi, offi, ei, g2, g3, g4, g5, g6, g7⟩ := hI
  subst ei
  have hI0 := hM.2.2.2.2.1
  cases hin : s.inp with
  | nil =>
    have e0 : s.inp.length = 0 := by rw [hin]; rfl
    have hd0 : d = 0 := by rw [← hd', hin]; rfl
    subst hd0
    rw [e0] at c24
    have cS := fun (w' : World) (ho : Only Nil w w') => dset_any mb a 0 cv _ _ ov s w' ((hM.quiet ho).1) ha (by decide)
    have HM := Lib.hid hM
    have HC := Lib.hid cS
    have HIN := Lib.hid hin
    unfold ic
    clear hM hs hp hrr h4 cS g2 g3 g4 g5 g6 g7 hI0 hin e0 hd' i1 hoa f24
    go_enter Try.func35, Try.ntmps35
    go_wp2_with fail
    go_quiet (fail)
    go_wp2_with fail
    refine (HC.out _ (by (repeat with_reducible first | exact Only.refl _ _ | refine Only.alloc ?_ _ | refine Only.drewN ?_ _ | refine Only.drew ?_))).mono ?_
    rintro e w3 ⟨rfl, hB3, ho3⟩
    have ho0 : Only (M.One mb) w w3 := Only.trans (T := M.One mb) (by (repeat with_reducible first | exact Only.refl _ _ | refine Only.alloc ?_ _ | refine Only.drewN ?_ _ | refine Only.drew ?_)) ho3 (fun _ _ h => h)
    have H3 := Lib.hid hB3
    have HO3 := Lib.hid ho0
    clear hB3 ho3 ho0
    go_wp2_with fail
    go_ret
    exact ⟨_, rfl, HO3.out, HM.out.own (s' := setR { s with inp := [] } a 0) HO3.out (by have := H3.out; exact this) rfl (by simp only [setR]; rw [HIN.out]) rfl⟩
  | cons x t =>
    have e1 : s.inp.length = t.length + 1 := by rw [hin]; rfl
    have hdx : d = x := by rw [← hd', hin]; rfl
    subst hdx
    have hd8 : d < 256 := hinp d (by rw [hin]; exact List.mem_cons_self)
    rw [e1] at c24 g2 g4 g7
    have ea := g4 (by omega)
    subst ea
    have hcI : w.cell? ⟨bi, offi, none⟩ = some (.int .u8 d) := g6 0 _ (by rw [hin]; rfl)
    have hbi := World.block_lt_of_cell? w _ hcI
    simp only at hbi
    have hneb : bi ≠ mb := fun h => g7 (by omega) (Or.inl (Or.inl h))
    obtain ⟨ap, hap⟩ : ∃ ap, (if capi = 1 then some (⟨bi, offi, none⟩ : Addr) else some ⟨bi, offi + 1, none⟩) = ap := ⟨_, rfl⟩
    have hrow : ∀ w' : World, Only (M.One mb) w w' → BRow (Own4 Q mb wb ob) w' (.slice ap t.length (capi - 1)) t := by
      intro w' ho
      have hn0 := g7 (by omega)
      have hkeep : CellsAt w' bi offi (U8s s.inp) := g6.kept ho (fun _ h => hn0 (Or.inl (Or.inl h)))
      rw [← hap]
      by_cases hc : capi = 1
      · rw [if_pos hc]
        have ht : t = [] := List.eq_nil_of_length_eq_zero (by omega)
        subst ht
        exact ⟨bi, _, _, offi, rfl, by simp, by omega, fun h => by simp at h, nofun, fun i u hi => by simp [U8s] at hi, fun h => by simp at h⟩
      · rw [if_neg hc]
        refine ⟨bi, _, _, offi + 1, rfl, by omega, by omega, fun _ => rfl, nofun, fun i u hi => ?_, fun _ => hn0⟩
        have := hkeep (i + 1) u (by rw [hin]; simpa [U8s] using hi)
        rw [show offi + 1 + i = offi + (i + 1) by omega]
        exact this
    obtain ⟨L, hL⟩ : ∃ L, t.length = L := ⟨_, rfl⟩
    rw [hL] at c24 g2 hrow
    have hL0 : (0 : Int) < ((L : Int) + 1) := by omega
    have hL1 : (0 : Int) ≤ (L : Int) := Int.natCast_nonneg _
    unfold maxLen at g3
    have cS := fun (w' : World) (hB : Blk w' mb (dcells cv (.slice (some ⟨wb, 0, none⟩) s.mem.length s.mem.length) (.slice ap L (capi - 1)) ov { s with inp := t }) 68) => dset_any mb a d cv _ (.slice ap L (capi - 1)) ov { s with inp := t } w' hB ha (by omega)
    have HROW := Lib.hid hrow
    have HCS := Lib.hid cS
    have HM := Lib.hid hM
    have HI := Lib.hid i1
    have HOA := Lib.hid hoa
    have H24 := Lib.hid c24
    have HF24 := Lib.hid f24
    have HCI := Lib.hid hcI
    unfold ic
    clear hM hs hp hrr h4 cS g4 g5 g6 g7 hI0 hin e1 hd' i1 hoa hrow hinp hL
    go_enter Try.func35, Try.ntmps35
    go_wp2_with fail
    go_quiet (fail)
    have ho1 : Only Nil w (World.drewN (w.alloc (.cells #[.int .i64 2, .bool false, .bool false, .int .i64 a, .int .i64 b, .int .i64 c, .int .i64 o, .int .i32 m] 49)) nq) := M.Only.drewN HOA.out nq
    have i2 := HI.out
    unfold InsAt at i2
    obtain ⟨w2, hw2⟩ : ∃ w2, World.drewN (w.alloc (.cells #[.int .i64 2, .bool false, .bool false, .int .i64 a, .int .i64 b, .int .i64 c, .int .i64 o, .int .i32 m] 49)) nq = w2 := ⟨_, rfl⟩
    have x1 : w2.cell? ⟨w.heap.size, 1, none⟩ = some (.bool false) := by rw [← hw2]; exact i2.2.1
    have x2 : w2.cell? ⟨w.heap.size, 2, none⟩ = some (.bool false) := by rw [← hw2]; exact i2.2.2.1
    have x3 : w2.cell? ⟨w.heap.size, 3, none⟩ = some (.int .i64 a) := by rw [← hw2]; exact i2.2.2.2.1
    rw [hw2] at ho1 ⊢
    have y24 := ho1.cell H24.out (fun h => h)
    have yc := ho1.cell HCI.out (fun h => h)
    have hM2 := HM.out.quiet ho1
    have z24 := hM2.1.free 24
    have hb24 : ∀ q : Nat, Blk ((w2.drewN q).setCell ⟨mb, 24, none⟩ (.slice ap L (capi - 1))) mb (dcells cv (.slice (some ⟨wb, 0, none⟩) s.mem.length s.mem.length) (.slice ap L (capi - 1)) ov { s with inp := t }) 68 := fun q => ((M.Blk.drewN hM2.1 q).setCell 24 _)
    obtain ⟨ib, hib⟩ : ∃ ib, w.heap.size = ib := ⟨_, rfl⟩
    rw [hib] at x1 x2 x3 ⊢
    have hne : ib ≠ mb := by omega
    have HB24 := Lib.hid hb24
    have HM2 := Lib.hid hM2
    have HO1 := Lib.hid ho1
    clear hw2 i2 cR c24 f24 hcI hM2 ho1 hb24
    go_wp2_with fail
    go_region
    all_goals go_wp2_with fail
    all_goals
      refine (HCS.out _ (by first | exact HB24.out 0 | exact HB24.out 1 | exact (HB24.out 0).drew)).mono ?_
      rintro e w3 ⟨rfl, hB3, ho3⟩
      have ho2 : Only (M.One mb) w w3 := ((HO1.out.mono (T := M.One mb) (fun _ h => h.elim)).trans (by (repeat with_reducible first | exact Only.refl _ _ | refine Only.drewN ?_ _ | refine Only.drew ?_ | refine Only.setOne ?_ _ _)) (fun _ _ h => h)).trans ho3 (fun _ _ h => h)
      have H3 := Lib.hid hB3
      have HO3 := Lib.hid ho2
      clear hB3 ho3 ho2
      go_wp2_with fail
      go_ret
      exact ⟨_, rfl, HO3.out, HM.out.in_ (s' := setR { s with inp := t } a d) HO3.out H3.out rfl (HROW.out _ HO3.out) rfl⟩
end Go.Proofs.Ythimhbfglgnohaa

/- The document's machine's store of a byte to be written. -/
set_option linter.unusedSimpArgs false
set_option linter.unusedVariables false
namespace Go.Proofs.Ythimhbfglgnohaa
open Go.RowKit M
variable {Q : Nat → Prop}

theorem DAt.wrote {w w9 : World} {mb wb g cap x : Nat} {ob : Option Nat} {code : List Nat} {s : St} {cv iv ov : Value} (h : DAt Q w mb wb ob code s cv iv ov) (ho : Only (M.Own ob) w w9)
    (hg : ob = some g ∨ w.heap.size ≤ g) (hown : w9.ownsRow 0 5 1 (.slice (some ⟨g, 0, none⟩) (s.out.length + 1) cap) (s.out.length + 1) (U8s s.out ++ [.int .u8 x])) :
    DAt Q (w9.setCell ⟨mb, 25, none⟩ (.slice (some ⟨g, 0, none⟩) (s.out.length + 1) cap)) mb wb (some g) code { s with out := s.out ++ [x] } cv iv (.slice (some ⟨g, 0, none⟩) (s.out.length + 1) cap) := by
  obtain ⟨h1, h2, h3, h4, h5, h6, h7, h8, h9⟩ := h
  have ho3 : Only (Own3 mb wb ob) w (w9.setCell ⟨mb, 25, none⟩ (.slice (some ⟨g, 0, none⟩) (s.out.length + 1) cap)) :=
    (ho.mono (T := Own3 mb wb ob) (fun _ h => Or.inr (Or.inr h))).setCell' _ (Or.inl rfl) _
  have gm : g ≠ mb := fun e => by
    rcases hg with hg | hg
    · exact h8 (by rw [hg, e])
    · have := h1.lt; omega
  have gw : g ≠ wb := fun e => by
    rcases hg with hg | hg
    · exact h9 (by rw [hg, e])
    · have := h2.lt; omega
  have b1 := (h1.kept ho (fun h => h8 h.symm)).setCell 25 (.slice (some ⟨g, 0, none⟩) (s.out.length + 1) cap)
  rw [dcells_ov] at b1
  refine ⟨b1, (h2.kept ho (fun h => h9 h.symm)).setOther _ _ (fun h => h3 h.symm), h3, h4.moved ho3 hg, h5.moved ho3 hg, ?_, rfl, fun e => gm (by injection e), fun e => gw (by injection e)⟩
  have := ownsRow_set_other hown ⟨mb, 25, none⟩ (.slice (some ⟨g, 0, none⟩) (s.out.length + 1) cap) (fun e => gm (by simpa [Value.ownBlock] using e))
  simpa [U8s] using this

set_option maxHeartbeats 1600000 in
theorem dstore_text (mb wb : Nat) (ob : Option Nat) (code : List Nat) (a b c o : Nat) (m : Int) (h1 : -2147483648 ≤ m) (h2 : m ≤ 2147483647) (ha : a < 16) (hb : b < 16) (cv iv ov : Value) (s : St) (w : World) (hs : s.Ok) (hM : DAt Q w mb wb ob code s cv iv ov) {p : Nat} (hp : (s.R b + U m) % 4294967296 = p) (h4 : p = 4294967232) (hol : s.out.length ≤ 1099511627776) :
    Calls Try.prog 35 #[.pointer (some ⟨mb, 0, none⟩), ic 2 true false a b c o m] w fun e w' => ∃ ob' ov', e = .returned (.bool true) ∧ Only (Own3 mb wb ob) w w' ∧ (ob' = ob ∨ ∃ k, ob' = some k ∧ w.heap.size ≤ k) ∧ DAt Q w' mb wb ob' code { s with out := s.out ++ [s.R a % 256] } cv iv ov' := by
  obtain ⟨i0, hi, hz0, hz1, hz2⟩ := info_parts Try.info5
  have cR := (hM.1.cell (2 + b)).trans (dcells_reg cv _ iv ov s hb)
  have hlt := hM.1.lt
  have b0 : (0 : Int) ≤ (b : Int) := Int.natCast_nonneg _
  have b1 : (b : Int) < 16 := by omega
  have hr := hs.reg b hb
  obtain ⟨r, hrr⟩ : ∃ r, s.R b = r := ⟨_, rfl⟩
  rw [hrr] at cR hp hr
  have eP : ((r : Int) + m % 4294967296) % 4294967296 = (p : Int) := by rw [← hp]; unfold U; omega
  have t1 : ((p : Int) == 4294967232) = true := by rw [beq_iff_eq]; omega
  have i1 := insAt (w := w) (F := 2) (u := true) (v := false) (a := a) (b := b) (c := c) (o := o) (m := m) (Only.refl Nil (w.alloc (.cells (icz 2 true false a b c o m) 49)))
  have hoa : Only Nil w (w.alloc (.cells (icz 2 true false a b c o m) 49)) := (Only.refl Nil w).alloc _
  have HI := Lib.hid i1
  have HOA := Lib.hid hoa
  have HMM := Lib.hid hM
  unfold ic
  clear hM hp hrr h4 i1 hoa
  go_enter Try.func35, Try.ntmps35
  go_wp2_with fail
  go_quiet (fail)
  have ho1 : Only Nil w (World.drewN (w.alloc (.cells #[.int .i64 2, .bool true, .bool false, .int .i64 a, .int .i64 b, .int .i64 c, .int .i64 o, .int .i32 m] 49)) nq) := M.Only.drewN HOA.out nq
  have i2 := HI.out
  unfold InsAt at i2
  obtain ⟨w2, hw2⟩ : ∃ w2, World.drewN (w.alloc (.cells #[.int .i64 2, .bool true, .bool false, .int .i64 a, .int .i64 b, .int .i64 c, .int .i64 o, .int .i32 m] 49)) nq = w2 := ⟨_, rfl⟩
  have x1 : w2.cell? ⟨w.heap.size, 1, none⟩ = some (.bool true) := by rw [← hw2]; exact i2.2.1
  have x2 : w2.cell? ⟨w.heap.size, 2, none⟩ = some (.bool false) := by rw [← hw2]; exact i2.2.2.1
  have y3 : w2.cell? ⟨w.heap.size, 3, none⟩ = some (.int .i64 a) := by rw [← hw2]; exact i2.2.2.2.1
  rw [hw2] at ho1 ⊢
  have hM2 := HMM.out.quiet ho1
  have ho2' := ho1
  obtain ⟨ib, hib⟩ : ∃ ib, w.heap.size = ib := ⟨_, rfl⟩
  have HSZ := Lib.hid hib
  rw [hib] at x1 x2 y3 ⊢
  have hneq : ib ≠ mb := by omega
  clear hw2 i2 cR hib ho1
  have hlt1 := hM2.1.lt
  have hlt2 := ho2'.size
  have cR := (hM2.1.cell (2 + a)).trans (dcells_reg cv _ iv ov s ha)
  have c3 : w2.cell? ⟨mb, 25, none⟩ = some ov := hM2.1.cell 25
  have f3 := hM2.1.free 25
  have a0 : (0 : Int) ≤ (a : Int) := Int.natCast_nonneg _
  have a1 : (a : Int) < 16 := by omega
  have hown2 : w2.drew.ownsRow 0 5 1 ov s.out.length (U8s s.out) := ownsRow_only hM2.2.2.2.2.2.1 (Only.refl Nil w2).drew (fun _ _ h => h)
  obtain ⟨r, hr⟩ : ∃ r, s.R a = r := ⟨_, rfl⟩
  rw [hr] at cR
  have eX : IntKind.u8.wrap (r : Int) = ((r % 256 : Nat) : Int) := by rw [IntKind.wrap_u8]; omega
  have eX' : (r : Int) % 256 = ((r % 256 : Nat) : Int) := by omega
  obtain ⟨x, hx⟩ : ∃ x, r % 256 = x := ⟨_, rfl⟩
  rw [hx] at eX eX'
  obtain ⟨n, hn⟩ : ∃ n, s.out.length = n := ⟨_, rfl⟩
  rw [hn] at hol hown2
  have hnews : Hid (∀ j u, [Value.int .u8 (x : Nat)][j]? = some u → (w2.drew.alloc (.cells #[Value.int .u8 (x : Nat)] 5)).cell? ((⟨w2.heap.size, 0, none⟩ : Addr).add j) = some u) := by
    refine Lib.hid fun j u hj => ?_
    match j, hj with
    | 0, hj => simp at hj; subst hj; exact (Blk.new w2.drew #[Value.int .u8 (x : Nat)] 5).cell 0
  have h1c : Hid (∀ u ∈ [Value.int .u8 (x : Nat)], u.oneCell' = true) := Lib.hid (fun u hu => by simp at hu; subst hu; rfl)
  have s1 : Hid (n + 1 ≤ maxLen) := Lib.hid (by simp [maxLen]; omega)
  have s2 : Hid ((n + 1) * 1 ≤ 140737488355328) := Lib.hid (by omega)
  have HX := Lib.hid (show r % 256 = x from hx)
  have HR := Lib.hid hr
  have HN := Lib.hid hn
  have HM := Lib.hid hM2
  have hom : ov.ownBlock = ob := hM2.2.2.2.2.2.2.1
  have hobm : Hid (ob ≠ some mb) := Lib.hid hM2.2.2.2.2.2.2.2.1
  have hB2 := Lib.hid (hM2.1.drew.alloc (.cells #[Value.int .u8 (x : Nat)] 5))
  clear hM2 hs hr hx hn
  go_wp2_with fail
  go_region_law (first
    | (refine step_append_lies _ rfl (.tmp 44) (.tmp 53) 23 rfl 0 5 i0 (.int .u8 0) 1 1 Try.underlying23 hi hz0 hz1 hz2 rfl (by decide) ov n (U8s s.out) (by simp [Act.eval, Act.put]) (hown2.alloc _) ⟨w2.heap.size, 0, none⟩ 1 1 [.int .u8 (x : Nat)] (by simp [Act.eval, Act.put]) rfl hnews.out h1c.out (by decide) s1.out s2.out (Nat.zero_le _) _ rfl ?_; intro g cap w9 hown9 hg9 hgb hlt9; have hB9 := hB2.out.kept (Only.of_grown hg9) (fun h => hobm.out (by rw [← hom]; exact h.symm)); have c9 : w9.cell? ⟨mb, 25, none⟩ = some ov := hB9.cell 25; have f9 : w9.frozen? ⟨mb, 25, none⟩ = false := hB9.free 25))
  all_goals
    have hoA := Only.of_grown hg9
    have hoA0 : ∃ wa, Only Nil w2 wa ∧ Only (M.Own ov.ownBlock) wa w9 ∧ (ov.ownBlock = some g ∨ g = wa.heap.size) := ⟨_, (by (repeat with_reducible first | exact Only.refl _ _ | refine Only.alloc ?_ _ | refine Only.drew ?_)), hoA, hgb⟩
    clear hoA hg9 hgb
    obtain ⟨wa, hoa, hoA, hgb⟩ := hoA0
    rw [hom] at hoA hgb
    have hoW : Only (M.Own ob) w2 w9 := (hoa.mono (T := M.Own ob) (fun _ h => h.elim)).trans hoA (fun _ _ h => h)
    have hgw : ob = some g ∨ w2.heap.size ≤ g := hgb.imp id (fun h => Nat.le_trans hoa.size (Nat.le_of_eq h.symm))
    have hM9 := HM.out.wrote hoW hgw (x := x) (cap := cap) (by rw [HN.out]; exact hown9)
    rw [HN.out] at hM9
    have H9 := Lib.hid hM9
    have HW := Lib.hid hoW
    have HG := Lib.hid hgw
    clear hM9 hoW hgw hoA hgb hoa hB2 hB9 c9 f9 c3 f3 cR hown2 hown9 HM
    go_wp2_with fail
    go_ret
    refine ⟨some g, .slice (some ⟨g, 0, none⟩) (n + 1) cap, rfl, ?_, ?_, ?_⟩
    · exact ((ho2'.mono (T := Own3 mb wb ob) (fun _ h => h.elim)).trans (HW.out.mono (T := Own3 mb wb ob) (fun _ h => Or.inr (Or.inr h))) (fun _ _ h => h)).setCell' _ (Or.inl rfl) _
    · exact HG.out.elim (fun h => Or.inl h.symm) (fun h => Or.inr ⟨g, rfl, Nat.le_trans ho2'.size h⟩)
    · rw [HR.out, HX.out]
      exact H9.out
end Go.Proofs.Ythimhbfglgnohaa

/- The document's machine's loads and stores, together. -/
set_option linter.unusedSimpArgs false
set_option linter.unusedVariables false
namespace Go.Proofs.Ythimhbfglgnohaa
open Go.RowKit M
variable {Q : Nat → Prop}

/-- What a load does. -/
theorem dload_of (mb wb : Nat) (ob : Option Nat) (code : List Nat) (v : Bool) (a b c o : Nat) (m : Int) (h1 : -2147483648 ≤ m) (h2 : m ≤ 2147483647) (ha : a < 16) (hb : b < 16) (cv iv ov : Value) (s : St) (w : World) (hs : s.Ok) (hM : DAt Q w mb wb ob code s cv iv ov) :
    Calls Try.prog 35 #[.pointer (some ⟨mb, 0, none⟩), ic 2 false v a b c o m] w fun e w' => match M.load s ⟨2, false, v, a, b, c, o, m⟩ with
      | some s' => ∃ iv', e = .returned (.bool true) ∧ Only (M.One mb) w w' ∧ DAt Q w' mb wb ob code s' cv iv' ov
      | none => e = .returned (.bool false) ∧ Only Nil w w' := by
  obtain ⟨p, hp⟩ : ∃ p, (s.R b + U m) % 4294967296 = p := ⟨_, rfl⟩
  have hpl : M.place s ⟨2, false, v, a, b, c, o, m⟩ = p := by unfold M.place; simp only [Int.toNat_natCast]; exact hp
  unfold M.load
  rw [hpl]
  simp only [Int.toNat_natCast]
  cases v
  · rw [if_neg (by decide)]
    by_cases hw : p % 4 = 0 ∧ p / 4 < s.mem.length
    · rw [if_pos hw]
      exact (dload_word mb wb ob code a b c o m h1 h2 ha hb cv iv ov s w hs hM hp hw rfl rfl).mono fun e w' h => ⟨iv, h⟩
    · rw [if_neg hw]
      by_cases h4 : p = 4294967232
      · rw [if_pos h4]
        exact dload_text mb wb ob code a b c o m h1 h2 ha hb cv iv ov s w hs hM hp h4 rfl
      · rw [if_neg h4]
        by_cases h5 : p = 4294967236
        · rw [if_pos h5]
          by_cases hin : s.inp = []
          · rw [if_pos (by rw [hin]; rfl)]
            exact (dload_end mb wb ob code a b c o m h1 h2 ha hb cv iv ov s w hs hM hp h5 hin).mono fun e w' h => ⟨iv, h⟩
          · rw [if_neg (by intro h; exact hin (List.eq_nil_of_length_eq_zero h))]
            exact (dload_more mb wb ob code a b c o m h1 h2 ha hb cv iv ov s w hs hM hp h5 hin).mono fun e w' h => ⟨iv, h⟩
        · rw [if_neg h5]
          exact dload_no mb wb ob code a b c o m h1 h2 ha hb cv iv ov s w hs hM hp hw h4 h5
  · rw [if_pos rfl]
    exact dmem_v mb wb ob code false a b c o m h1 h2 hb cv iv ov s w hM

/-- What a store does. -/
theorem dstore_of (mb wb : Nat) (ob : Option Nat) (code : List Nat) (v : Bool) (a b c o : Nat) (m : Int) (h1 : -2147483648 ≤ m) (h2 : m ≤ 2147483647) (ha : a < 16) (hb : b < 16) (cv iv ov : Value) (s : St) (w : World) (hs : s.Ok) (hM : DAt Q w mb wb ob code s cv iv ov) (hol : s.out.length ≤ 1099511627776) :
    Calls Try.prog 35 #[.pointer (some ⟨mb, 0, none⟩), ic 2 true v a b c o m] w fun e w' => match M.store s ⟨2, true, v, a, b, c, o, m⟩ with
      | some s' => ∃ ob' ov', e = .returned (.bool true) ∧ Only (Own3 mb wb ob) w w' ∧ (ob' = ob ∨ ∃ k, ob' = some k ∧ w.heap.size ≤ k) ∧ DAt Q w' mb wb ob' code s' cv iv ov'
      | none => e = .returned (.bool false) ∧ Only Nil w w' := by
  obtain ⟨p, hp⟩ : ∃ p, (s.R b + U m) % 4294967296 = p := ⟨_, rfl⟩
  have hpl : M.place s ⟨2, true, v, a, b, c, o, m⟩ = p := by unfold M.place; simp only [Int.toNat_natCast]; exact hp
  unfold M.store
  rw [hpl]
  simp only [Int.toNat_natCast]
  cases v
  · rw [if_neg (by decide)]
    by_cases hw : p % 4 = 0 ∧ p / 4 < s.mem.length
    · rw [if_pos hw]
      exact (dstore_word mb wb ob code a b c o m h1 h2 ha hb cv iv ov s w hs hM hp hw rfl).mono fun e w' h => ⟨ob, ov, h.1, h.2.1, Or.inl rfl, h.2.2⟩
    · rw [if_neg hw]
      by_cases h4 : p = 4294967232
      · rw [if_pos h4]
        exact dstore_text mb wb ob code a b c o m h1 h2 ha hb cv iv ov s w hs hM hp h4 hol
      · rw [if_neg h4]
        exact dstore_no mb wb ob code a b c o m h1 h2 ha hb cv iv ov s w hs hM hp hw h4
  · rw [if_pos rfl]
    exact dmem_v mb wb ob code true a b c o m h1 h2 hb cv iv ov s w hM
end Go.Proofs.Ythimhbfglgnohaa

