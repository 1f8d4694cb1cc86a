/- The machine's instructions that reckon. -/
import Derived.Test.YthimhbfglgnohaaMBranch
import Derived.Test.YthimhbfglgnohaaMOper
import Derived.Deep.DrawnRows
import Derived.Deep.RegionHeld3
set_option linter.unusedSimpArgs false
set_option linter.unusedVariables false
namespace Go.Proofs.Ythimhbfglgnohaa
open Go.RowKit M
variable {Q : Nat → Prop}
attribute [local go_sem ↓] Go.wp_at_zero Go.wp_at_succ

theorem ofInt_nat (u : Nat) (h : u < 4294967296) : BitVec.ofInt 32 (u : Int) = BitVec.ofNat 32 u := rfl
theorem wrap_u32_nat (u : Nat) (h : u < 4294967296) : IntKind.u32.wrap (u : Int) = (u : Int) := by rw [IntKind.wrap_u32]; omega
theorem band_u32 (B N : Nat) (hB : B < 4294967296) (hN : N < 4294967296) : bits BinOp.and IntKind.u32 (B : Int) (N : Int) = ((B &&& N : Nat) : Int) := by
  have h : B &&& N < 2 ^ 32 := Nat.and_lt_two_pow _ hN
  show IntKind.u32.wrap ((BitVec.ofInt 32 (B : Int) &&& BitVec.ofInt 32 (N : Int)).toNat : Int) = _
  rw [ofInt_nat B hB, ofInt_nat N hN, BitVec.toNat_and, BitVec.toNat_ofNat, BitVec.toNat_ofNat, Nat.mod_eq_of_lt hB, Nat.mod_eq_of_lt hN, wrap_u32_nat _ h]
theorem bor_u32 (B N : Nat) (hB : B < 4294967296) (hN : N < 4294967296) : bits BinOp.or IntKind.u32 (B : Int) (N : Int) = ((B ||| N : Nat) : Int) := by
  have h : B ||| N < 2 ^ 32 := Nat.or_lt_two_pow hB hN
  show IntKind.u32.wrap ((BitVec.ofInt 32 (B : Int) ||| BitVec.ofInt 32 (N : Int)).toNat : Int) = _
  rw [ofInt_nat B hB, ofInt_nat N hN, BitVec.toNat_or, BitVec.toNat_ofNat, BitVec.toNat_ofNat, Nat.mod_eq_of_lt hB, Nat.mod_eq_of_lt hN, wrap_u32_nat _ h]
theorem bxor_u32 (B N : Nat) (hB : B < 4294967296) (hN : N < 4294967296) : bits BinOp.xor IntKind.u32 (B : Int) (N : Int) = ((B ^^^ N : Nat) : Int) := by
  have h : B ^^^ N < 2 ^ 32 := Nat.xor_lt_two_pow hB hN
  show IntKind.u32.wrap ((BitVec.ofInt 32 (B : Int) ^^^ BitVec.ofInt 32 (N : Int)).toNat : Int) = _
  rw [ofInt_nat B hB, ofInt_nat N hN, BitVec.toNat_xor, BitVec.toNat_ofNat, BitVec.toNat_ofNat, Nat.mod_eq_of_lt hB, Nat.mod_eq_of_lt hN, wrap_u32_nat _ h]
theorem bann_u32 (B N : Nat) (hB : B < 4294967296) (hN : N < 4294967296) : bits BinOp.andNot IntKind.u32 (B : Int) (N : Int) = ((B &&& (4294967295 - N) : Nat) : Int) := by
  have h : B &&& (4294967295 - N) < 2 ^ 32 := Nat.and_lt_two_pow _ (by omega)
  show IntKind.u32.wrap ((BitVec.ofInt 32 (B : Int) &&& ~~~ BitVec.ofInt 32 (N : Int)).toNat : Int) = _
  rw [ofInt_nat B hB, ofInt_nat N hN, BitVec.toNat_and, BitVec.toNat_not, BitVec.toNat_ofNat, BitVec.toNat_ofNat, Nat.mod_eq_of_lt hB, Nat.mod_eq_of_lt hN, wrap_u32_nat _ h]

/-- What the first statement of a reckoning instruction reads. -/
def RAt (ib mb b B : Nat) (F : Int) (u v : Bool) (a b' c o : Nat) (m : Int) (w' : World) : Prop :=
  w'.cell? ⟨ib, 0, none⟩ = some (.int .i64 F) ∧ w'.cell? ⟨ib, 1, none⟩ = some (.bool u) ∧ w'.cell? ⟨ib, 2, none⟩ = some (.bool v) ∧ w'.cell? ⟨ib, 3, none⟩ = some (.int .i64 a) ∧
  w'.cell? ⟨ib, 4, none⟩ = some (.int .i64 b') ∧ w'.cell? ⟨ib, 5, none⟩ = some (.int .i64 c) ∧ w'.cell? ⟨ib, 6, none⟩ = some (.int .i64 o) ∧ w'.cell? ⟨ib, 7, none⟩ = some (.int .i32 m) ∧ w'.cell? ⟨mb, 4 + b, none⟩ = some (.int .u32 B)
theorem RAt.kept {ib mb b B : Nat} {F : Int} {u v : Bool} {a b' c o : Nat} {m : Int} {w w' : World} (h : RAt ib mb b B F u v a b' c o m w) (ho : Only Nil w w') : RAt ib mb b B F u v a b' c o m w' :=
  ⟨ho.cell h.1 (fun h => h), ho.cell h.2.1 (fun h => h), ho.cell h.2.2.1 (fun h => h), ho.cell h.2.2.2.1 (fun h => h), ho.cell h.2.2.2.2.1 (fun h => h), ho.cell h.2.2.2.2.2.1 (fun h => h), ho.cell h.2.2.2.2.2.2.1 (fun h => h), ho.cell h.2.2.2.2.2.2.2.1 (fun h => h), ho.cell h.2.2.2.2.2.2.2.2 (fun h => h)⟩

set_option maxHeartbeats 1600000 in
theorem reckon_and (mb wb : Nat) (ob : Option Nat) (code : List Nat) (F : Int) (u v : Bool) (a b c o : Nat) (m : Int) (h1 : -2147483648 ≤ m) (h2 : m ≤ 2147483647) (ha : a < 16) (hb : b < 16) (cv iv ov : Value) (s : St) (w : World) (hs : s.Ok) (hM : MAt Q w mb wb ob code s cv iv ov) {N : Nat} (hN : N < 4294967296)
    (cO : ∀ w', Only Nil w w' → Calls Try.prog 61 #[.pointer (some ⟨mb, 0, none⟩), ic F u v a b c o m] w' fun e w2 => e = .returned (.int .u32 N) ∧ Only Nil w' w2) (hO : o = 4) {B : Nat} (hB : s.R b = B) :
    Calls Try.prog 45 #[.pointer (some ⟨mb, 0, none⟩), ic F u v a b c o m] w fun e w' => e = .returned (.bool true) ∧ Only (M.One mb) w w' ∧ MAt Q w' mb wb ob code (setR s a (B &&& N)) cv iv ov := by
  obtain ⟨rr, hrr'⟩ : ∃ rr, B &&& N = rr := ⟨_, rfl⟩
  have hrr : rr < 4294967296 := by rw [← hrr']; exact Nat.lt_of_le_of_lt Nat.and_le_left (by rw [← hB]; exact hs.reg b hb)
  have eR : bits BinOp.and IntKind.u32 (B : Int) (N : Int) = (rr : Int) := by rw [← hrr']; exact band_u32 _ _ (by rw [← hB]; exact hs.reg b hb) hN
  have HRR := Lib.hid hrr'
  clear hrr'
  have HOP := Lib.hid hO
  clear hO
  have hMa := hM.quiet ((Only.refl Nil w).alloc (.cells (icz F u v a b c o m) 49))
  have cR := (hMa.1.cell (4 + b)).trans (icells_reg cv _ iv ov s hb)
  rw [hB] at cR
  have hB32 : B < 4294967296 := by rw [← hB]; exact hs.reg b hb
  have hlt := hM.1.lt
  have hlta := hMa.1.lt
  have i1 := insAt (w := w) (Only.refl Nil (w.alloc (.cells (icz F u v a b c o m) 49)))
  obtain ⟨x0, x1, x2, x3, x4, x5, x6, x7, x8⟩ := i1
  obtain ⟨wa, hwa⟩ : ∃ wa, w.alloc (.cells (icz F u v a b c o m) 49) = wa := ⟨_, rfl⟩
  have hoa : Only Nil w wa := hwa ▸ (Only.refl Nil w).alloc _
  rw [hwa] at cR hMa hlta x0 x1 x2 x3 x4 x5 x6 x7 x8
  obtain ⟨ib, hib⟩ : ∃ b, w.heap.size = b := ⟨_, rfl⟩
  have hneq : ib ≠ mb := by omega
  rw [hib] at x0 x1 x2 x3 x4 x5 x6 x7 x8
  have hI0 : RAt ib mb b B F u v a b c o m wa := ⟨x0, x1, x2, x3, x4, x5, x6, x7, cR⟩
  have b0 : (0 : Int) ≤ (b : Int) := Int.natCast_nonneg _
  have b1 : (b : Int) < 16 := by omega
  unfold ic at cO ⊢
  unfold icz at hwa
  go_enter Try.func45, Try.ntmps45
  go_wp2_with fail
  first
    | (go_region_held3 (fun w' => (w'.cell? ⟨ib, 0, none⟩ = some (.int .i64 F) ∧ w'.cell? ⟨ib, 1, none⟩ = some (.bool u) ∧ w'.cell? ⟨ib, 2, none⟩ = some (.bool v) ∧ w'.cell? ⟨ib, 3, none⟩ = some (.int .i64 a) ∧ w'.cell? ⟨ib, 4, none⟩ = some (.int .i64 b) ∧ w'.cell? ⟨ib, 5, none⟩ = some (.int .i64 c) ∧ w'.cell? ⟨ib, 6, none⟩ = some (.int .i64 o) ∧ w'.cell? ⟨ib, 7, none⟩ = some (.int .i32 m) ∧ w'.cell? ⟨mb, 4 + b, none⟩ = some (.int .u32 B)) ∧ Only Nil wa w') (first | (assumption) | (exact ⟨hI0.kept (Only.refl _ _).drew, (Only.refl _ _).drew⟩) | (go_split_ands; exact ⟨hI0.kept (Only.trans (by assumption) ho5 (fun _ _ h => h)), Only.trans (by assumption) ho5 (fun _ _ h => h)⟩)) (first | (go_at_call 61; refine (cO _ ?_).mono ?_; (go_split_ands; exact hoa.trans (by assumption) (fun _ _ h => h)); rintro e w' ⟨rfl, ho5⟩)))
    | fail "REGION"
  all_goals go_split_ands
  all_goals
    have ho6 : Only Nil wa w' := by assumption
    have ho6' : Only Nil w w' := hoa.trans ho6 (fun _ _ h => h)
    have hI6 := hI0.kept ho6
    have hM6 := hMa.quiet ho6
    have hlt6 := hM6.1.lt
    have hsz6 := ho6.size
    obtain ⟨wb', hwb⟩ : ∃ wx, w' = wx := ⟨_, rfl⟩
    subst hwb
    clear ho5 x0 x1 x2 x3 x4 x5 x6 x7 cR hMa hI0 ho6
    have HI := Lib.hid hI6
    unfold RAt at hI6
    obtain ⟨x0, x1, x2, x3, x4, x5, x6, x7, cR⟩ := hI6
    clear x0 x1 x2 x4 x5 x7 cR
    have eo := HOP.out
    subst eo
    have cS := fun (w2 : World) (ho : Only Nil w' w2) => set_any mb a rr cv _ iv ov s w2 (hM6.1.kept ho (fun h => h)) ha hrr
    have HM := Lib.hid hM6
    clear hM6
    go_wp2_with fail
    try (go_quiet (fail); go_wp2_with fail)
    refine (cS _ (by (repeat with_reducible first | exact Only.refl _ _ | refine Only.drewN ?_ _ | refine Only.drew ?_))).mono ?_
    rintro e w3 ⟨rfl, hB3, ho3⟩
    go_wp2_with fail
    go_ret
    rw [HRR.out]
    exact ⟨rfl, (ho6'.mono (fun _ h => h.elim)).trans ((by (repeat with_reducible first | exact Only.refl _ _ | refine Only.drewN ?_ _ | refine Only.drew ?_)) : Only (M.One mb) w' _) (fun _ _ h => h) |>.trans ho3 (fun _ _ h => h), (HM.out.quiet (by (repeat with_reducible first | exact Only.refl _ _ | refine Only.drewN ?_ _ | refine Only.drew ?_))).own ho3 hB3 rfl rfl rfl⟩


set_option maxHeartbeats 1600000 in
theorem reckon_ann (mb wb : Nat) (ob : Option Nat) (code : List Nat) (F : Int) (u v : Bool) (a b c o : Nat) (m : Int) (h1 : -2147483648 ≤ m) (h2 : m ≤ 2147483647) (ha : a < 16) (hb : b < 16) (cv iv ov : Value) (s : St) (w : World) (hs : s.Ok) (hM : MAt Q w mb wb ob code s cv iv ov) {N : Nat} (hN : N < 4294967296)
    (cO : ∀ w', Only Nil w w' → Calls Try.prog 61 #[.pointer (some ⟨mb, 0, none⟩), ic F u v a b c o m] w' fun e w2 => e = .returned (.int .u32 N) ∧ Only Nil w' w2) (hO : o = 5) {B : Nat} (hB : s.R b = B) :
    Calls Try.prog 45 #[.pointer (some ⟨mb, 0, none⟩), ic F u v a b c o m] w fun e w' => e = .returned (.bool true) ∧ Only (M.One mb) w w' ∧ MAt Q w' mb wb ob code (setR s a (B &&& (4294967295 - N))) cv iv ov := by
  obtain ⟨rr, hrr'⟩ : ∃ rr, B &&& (4294967295 - N) = rr := ⟨_, rfl⟩
  have hrr : rr < 4294967296 := by rw [← hrr']; exact Nat.lt_of_le_of_lt Nat.and_le_left (by rw [← hB]; exact hs.reg b hb)
  have eR : bits BinOp.andNot IntKind.u32 (B : Int) (N : Int) = (rr : Int) := by rw [← hrr']; exact bann_u32 _ _ (by rw [← hB]; exact hs.reg b hb) hN
  have HRR := Lib.hid hrr'
  clear hrr'
  have HOP := Lib.hid hO
  clear hO
  have hMa := hM.quiet ((Only.refl Nil w).alloc (.cells (icz F u v a b c o m) 49))
  have cR := (hMa.1.cell (4 + b)).trans (icells_reg cv _ iv ov s hb)
  rw [hB] at cR
  have hB32 : B < 4294967296 := by rw [← hB]; exact hs.reg b hb
  have hlt := hM.1.lt
  have hlta := hMa.1.lt
  have i1 := insAt (w := w) (Only.refl Nil (w.alloc (.cells (icz F u v a b c o m) 49)))
  obtain ⟨x0, x1, x2, x3, x4, x5, x6, x7, x8⟩ := i1
  obtain ⟨wa, hwa⟩ : ∃ wa, w.alloc (.cells (icz F u v a b c o m) 49) = wa := ⟨_, rfl⟩
  have hoa : Only Nil w wa := hwa ▸ (Only.refl Nil w).alloc _
  rw [hwa] at cR hMa hlta x0 x1 x2 x3 x4 x5 x6 x7 x8
  obtain ⟨ib, hib⟩ : ∃ b, w.heap.size = b := ⟨_, rfl⟩
  have hneq : ib ≠ mb := by omega
  rw [hib] at x0 x1 x2 x3 x4 x5 x6 x7 x8
  have hI0 : RAt ib mb b B F u v a b c o m wa := ⟨x0, x1, x2, x3, x4, x5, x6, x7, cR⟩
  have b0 : (0 : Int) ≤ (b : Int) := Int.natCast_nonneg _
  have b1 : (b : Int) < 16 := by omega
  unfold ic at cO ⊢
  unfold icz at hwa
  go_enter Try.func45, Try.ntmps45
  go_wp2_with fail
  first
    | (go_region_held3 (fun w' => (w'.cell? ⟨ib, 0, none⟩ = some (.int .i64 F) ∧ w'.cell? ⟨ib, 1, none⟩ = some (.bool u) ∧ w'.cell? ⟨ib, 2, none⟩ = some (.bool v) ∧ w'.cell? ⟨ib, 3, none⟩ = some (.int .i64 a) ∧ w'.cell? ⟨ib, 4, none⟩ = some (.int .i64 b) ∧ w'.cell? ⟨ib, 5, none⟩ = some (.int .i64 c) ∧ w'.cell? ⟨ib, 6, none⟩ = some (.int .i64 o) ∧ w'.cell? ⟨ib, 7, none⟩ = some (.int .i32 m) ∧ w'.cell? ⟨mb, 4 + b, none⟩ = some (.int .u32 B)) ∧ Only Nil wa w') (first | (assumption) | (exact ⟨hI0.kept (Only.refl _ _).drew, (Only.refl _ _).drew⟩) | (go_split_ands; exact ⟨hI0.kept (Only.trans (by assumption) ho5 (fun _ _ h => h)), Only.trans (by assumption) ho5 (fun _ _ h => h)⟩)) (first | (go_at_call 61; refine (cO _ ?_).mono ?_; (go_split_ands; exact hoa.trans (by assumption) (fun _ _ h => h)); rintro e w' ⟨rfl, ho5⟩)))
    | fail "REGION"
  all_goals go_split_ands
  all_goals
    have ho6 : Only Nil wa w' := by assumption
    have ho6' : Only Nil w w' := hoa.trans ho6 (fun _ _ h => h)
    have hI6 := hI0.kept ho6
    have hM6 := hMa.quiet ho6
    have hlt6 := hM6.1.lt
    have hsz6 := ho6.size
    obtain ⟨wb', hwb⟩ : ∃ wx, w' = wx := ⟨_, rfl⟩
    subst hwb
    clear ho5 x0 x1 x2 x3 x4 x5 x6 x7 cR hMa hI0 ho6
    have HI := Lib.hid hI6
    unfold RAt at hI6
    obtain ⟨x0, x1, x2, x3, x4, x5, x6, x7, cR⟩ := hI6
    clear x0 x1 x2 x4 x5 x7 cR
    have eo := HOP.out
    subst eo
    have cS := fun (w2 : World) (ho : Only Nil w' w2) => set_any mb a rr cv _ iv ov s w2 (hM6.1.kept ho (fun h => h)) ha hrr
    have HM := Lib.hid hM6
    clear hM6
    go_wp2_with fail
    try (go_quiet (fail); go_wp2_with fail)
    refine (cS _ (by (repeat with_reducible first | exact Only.refl _ _ | refine Only.drewN ?_ _ | refine Only.drew ?_))).mono ?_
    rintro e w3 ⟨rfl, hB3, ho3⟩
    go_wp2_with fail
    go_ret
    rw [HRR.out]
    exact ⟨rfl, (ho6'.mono (fun _ h => h.elim)).trans ((by (repeat with_reducible first | exact Only.refl _ _ | refine Only.drewN ?_ _ | refine Only.drew ?_)) : Only (M.One mb) w' _) (fun _ _ h => h) |>.trans ho3 (fun _ _ h => h), (HM.out.quiet (by (repeat with_reducible first | exact Only.refl _ _ | refine Only.drewN ?_ _ | refine Only.drew ?_))).own ho3 hB3 rfl rfl rfl⟩


set_option maxHeartbeats 1600000 in
theorem reckon_ior (mb wb : Nat) (ob : Option Nat) (code : List Nat) (F : Int) (u v : Bool) (a b c o : Nat) (m : Int) (h1 : -2147483648 ≤ m) (h2 : m ≤ 2147483647) (ha : a < 16) (hb : b < 16) (cv iv ov : Value) (s : St) (w : World) (hs : s.Ok) (hM : MAt Q w mb wb ob code s cv iv ov) {N : Nat} (hN : N < 4294967296)
    (cO : ∀ w', Only Nil w w' → Calls Try.prog 61 #[.pointer (some ⟨mb, 0, none⟩), ic F u v a b c o m] w' fun e w2 => e = .returned (.int .u32 N) ∧ Only Nil w' w2) (hO : o = 6) {B : Nat} (hB : s.R b = B) :
    Calls Try.prog 45 #[.pointer (some ⟨mb, 0, none⟩), ic F u v a b c o m] w fun e w' => e = .returned (.bool true) ∧ Only (M.One mb) w w' ∧ MAt Q w' mb wb ob code (setR s a (B ||| N)) cv iv ov := by
  obtain ⟨rr, hrr'⟩ : ∃ rr, B ||| N = rr := ⟨_, rfl⟩
  have hrr : rr < 4294967296 := by rw [← hrr']; exact Nat.or_lt_two_pow (n := 32) (by rw [← hB]; exact hs.reg b hb) hN
  have eR : bits BinOp.or IntKind.u32 (B : Int) (N : Int) = (rr : Int) := by rw [← hrr']; exact bor_u32 _ _ (by rw [← hB]; exact hs.reg b hb) hN
  have HRR := Lib.hid hrr'
  clear hrr'
  have HOP := Lib.hid hO
  clear hO
  have hMa := hM.quiet ((Only.refl Nil w).alloc (.cells (icz F u v a b c o m) 49))
  have cR := (hMa.1.cell (4 + b)).trans (icells_reg cv _ iv ov s hb)
  rw [hB] at cR
  have hB32 : B < 4294967296 := by rw [← hB]; exact hs.reg b hb
  have hlt := hM.1.lt
  have hlta := hMa.1.lt
  have i1 := insAt (w := w) (Only.refl Nil (w.alloc (.cells (icz F u v a b c o m) 49)))
  obtain ⟨x0, x1, x2, x3, x4, x5, x6, x7, x8⟩ := i1
  obtain ⟨wa, hwa⟩ : ∃ wa, w.alloc (.cells (icz F u v a b c o m) 49) = wa := ⟨_, rfl⟩
  have hoa : Only Nil w wa := hwa ▸ (Only.refl Nil w).alloc _
  rw [hwa] at cR hMa hlta x0 x1 x2 x3 x4 x5 x6 x7 x8
  obtain ⟨ib, hib⟩ : ∃ b, w.heap.size = b := ⟨_, rfl⟩
  have hneq : ib ≠ mb := by omega
  rw [hib] at x0 x1 x2 x3 x4 x5 x6 x7 x8
  have hI0 : RAt ib mb b B F u v a b c o m wa := ⟨x0, x1, x2, x3, x4, x5, x6, x7, cR⟩
  have b0 : (0 : Int) ≤ (b : Int) := Int.natCast_nonneg _
  have b1 : (b : Int) < 16 := by omega
  unfold ic at cO ⊢
  unfold icz at hwa
  go_enter Try.func45, Try.ntmps45
  go_wp2_with fail
  first
    | (go_region_held3 (fun w' => (w'.cell? ⟨ib, 0, none⟩ = some (.int .i64 F) ∧ w'.cell? ⟨ib, 1, none⟩ = some (.bool u) ∧ w'.cell? ⟨ib, 2, none⟩ = some (.bool v) ∧ w'.cell? ⟨ib, 3, none⟩ = some (.int .i64 a) ∧ w'.cell? ⟨ib, 4, none⟩ = some (.int .i64 b) ∧ w'.cell? ⟨ib, 5, none⟩ = some (.int .i64 c) ∧ w'.cell? ⟨ib, 6, none⟩ = some (.int .i64 o) ∧ w'.cell? ⟨ib, 7, none⟩ = some (.int .i32 m) ∧ w'.cell? ⟨mb, 4 + b, none⟩ = some (.int .u32 B)) ∧ Only Nil wa w') (first | (assumption) | (exact ⟨hI0.kept (Only.refl _ _).drew, (Only.refl _ _).drew⟩) | (go_split_ands; exact ⟨hI0.kept (Only.trans (by assumption) ho5 (fun _ _ h => h)), Only.trans (by assumption) ho5 (fun _ _ h => h)⟩)) (first | (go_at_call 61; refine (cO _ ?_).mono ?_; (go_split_ands; exact hoa.trans (by assumption) (fun _ _ h => h)); rintro e w' ⟨rfl, ho5⟩)))
    | fail "REGION"
  all_goals go_split_ands
  all_goals
    have ho6 : Only Nil wa w' := by assumption
    have ho6' : Only Nil w w' := hoa.trans ho6 (fun _ _ h => h)
    have hI6 := hI0.kept ho6
    have hM6 := hMa.quiet ho6
    have hlt6 := hM6.1.lt
    have hsz6 := ho6.size
    obtain ⟨wb', hwb⟩ : ∃ wx, w' = wx := ⟨_, rfl⟩
    subst hwb
    clear ho5 x0 x1 x2 x3 x4 x5 x6 x7 cR hMa hI0 ho6
    have HI := Lib.hid hI6
    unfold RAt at hI6
    obtain ⟨x0, x1, x2, x3, x4, x5, x6, x7, cR⟩ := hI6
    clear x0 x1 x2 x4 x5 x7 cR
    have eo := HOP.out
    subst eo
    have cS := fun (w2 : World) (ho : Only Nil w' w2) => set_any mb a rr cv _ iv ov s w2 (hM6.1.kept ho (fun h => h)) ha hrr
    have HM := Lib.hid hM6
    clear hM6
    go_wp2_with fail
    try (go_quiet (fail); go_wp2_with fail)
    refine (cS _ (by (repeat with_reducible first | exact Only.refl _ _ | refine Only.drewN ?_ _ | refine Only.drew ?_))).mono ?_
    rintro e w3 ⟨rfl, hB3, ho3⟩
    go_wp2_with fail
    go_ret
    rw [HRR.out]
    exact ⟨rfl, (ho6'.mono (fun _ h => h.elim)).trans ((by (repeat with_reducible first | exact Only.refl _ _ | refine Only.drewN ?_ _ | refine Only.drew ?_)) : Only (M.One mb) w' _) (fun _ _ h => h) |>.trans ho3 (fun _ _ h => h), (HM.out.quiet (by (repeat with_reducible first | exact Only.refl _ _ | refine Only.drewN ?_ _ | refine Only.drew ?_))).own ho3 hB3 rfl rfl rfl⟩


set_option maxHeartbeats 1600000 in
theorem reckon_xor (mb wb : Nat) (ob : Option Nat) (code : List Nat) (F : Int) (u v : Bool) (a b c o : Nat) (m : Int) (h1 : -2147483648 ≤ m) (h2 : m ≤ 2147483647) (ha : a < 16) (hb : b < 16) (cv iv ov : Value) (s : St) (w : World) (hs : s.Ok) (hM : MAt Q w mb wb ob code s cv iv ov) {N : Nat} (hN : N < 4294967296)
    (cO : ∀ w', Only Nil w w' → Calls Try.prog 61 #[.pointer (some ⟨mb, 0, none⟩), ic F u v a b c o m] w' fun e w2 => e = .returned (.int .u32 N) ∧ Only Nil w' w2) (hO : o = 7) {B : Nat} (hB : s.R b = B) :
    Calls Try.prog 45 #[.pointer (some ⟨mb, 0, none⟩), ic F u v a b c o m] w fun e w' => e = .returned (.bool true) ∧ Only (M.One mb) w w' ∧ MAt Q w' mb wb ob code (setR s a (B ^^^ N)) cv iv ov := by
  obtain ⟨rr, hrr'⟩ : ∃ rr, B ^^^ N = rr := ⟨_, rfl⟩
  have hrr : rr < 4294967296 := by rw [← hrr']; exact Nat.xor_lt_two_pow (n := 32) (by rw [← hB]; exact hs.reg b hb) hN
  have eR : bits BinOp.xor IntKind.u32 (B : Int) (N : Int) = (rr : Int) := by rw [← hrr']; exact bxor_u32 _ _ (by rw [← hB]; exact hs.reg b hb) hN
  have HRR := Lib.hid hrr'
  clear hrr'
  have HOP := Lib.hid hO
  clear hO
  have hMa := hM.quiet ((Only.refl Nil w).alloc (.cells (icz F u v a b c o m) 49))
  have cR := (hMa.1.cell (4 + b)).trans (icells_reg cv _ iv ov s hb)
  rw [hB] at cR
  have hB32 : B < 4294967296 := by rw [← hB]; exact hs.reg b hb
  have hlt := hM.1.lt
  have hlta := hMa.1.lt
  have i1 := insAt (w := w) (Only.refl Nil (w.alloc (.cells (icz F u v a b c o m) 49)))
  obtain ⟨x0, x1, x2, x3, x4, x5, x6, x7, x8⟩ := i1
  obtain ⟨wa, hwa⟩ : ∃ wa, w.alloc (.cells (icz F u v a b c o m) 49) = wa := ⟨_, rfl⟩
  have hoa : Only Nil w wa := hwa ▸ (Only.refl Nil w).alloc _
  rw [hwa] at cR hMa hlta x0 x1 x2 x3 x4 x5 x6 x7 x8
  obtain ⟨ib, hib⟩ : ∃ b, w.heap.size = b := ⟨_, rfl⟩
  have hneq : ib ≠ mb := by omega
  rw [hib] at x0 x1 x2 x3 x4 x5 x6 x7 x8
  have hI0 : RAt ib mb b B F u v a b c o m wa := ⟨x0, x1, x2, x3, x4, x5, x6, x7, cR⟩
  have b0 : (0 : Int) ≤ (b : Int) := Int.natCast_nonneg _
  have b1 : (b : Int) < 16 := by omega
  unfold ic at cO ⊢
  unfold icz at hwa
  go_enter Try.func45, Try.ntmps45
  go_wp2_with fail
  first
    | (go_region_held3 (fun w' => (w'.cell? ⟨ib, 0, none⟩ = some (.int .i64 F) ∧ w'.cell? ⟨ib, 1, none⟩ = some (.bool u) ∧ w'.cell? ⟨ib, 2, none⟩ = some (.bool v) ∧ w'.cell? ⟨ib, 3, none⟩ = some (.int .i64 a) ∧ w'.cell? ⟨ib, 4, none⟩ = some (.int .i64 b) ∧ w'.cell? ⟨ib, 5, none⟩ = some (.int .i64 c) ∧ w'.cell? ⟨ib, 6, none⟩ = some (.int .i64 o) ∧ w'.cell? ⟨ib, 7, none⟩ = some (.int .i32 m) ∧ w'.cell? ⟨mb, 4 + b, none⟩ = some (.int .u32 B)) ∧ Only Nil wa w') (first | (assumption) | (exact ⟨hI0.kept (Only.refl _ _).drew, (Only.refl _ _).drew⟩) | (go_split_ands; exact ⟨hI0.kept (Only.trans (by assumption) ho5 (fun _ _ h => h)), Only.trans (by assumption) ho5 (fun _ _ h => h)⟩)) (first | (go_at_call 61; refine (cO _ ?_).mono ?_; (go_split_ands; exact hoa.trans (by assumption) (fun _ _ h => h)); rintro e w' ⟨rfl, ho5⟩)))
    | fail "REGION"
  all_goals go_split_ands
  all_goals
    have ho6 : Only Nil wa w' := by assumption
    have ho6' : Only Nil w w' := hoa.trans ho6 (fun _ _ h => h)
    have hI6 := hI0.kept ho6
    have hM6 := hMa.quiet ho6
    have hlt6 := hM6.1.lt
    have hsz6 := ho6.size
    obtain ⟨wb', hwb⟩ : ∃ wx, w' = wx := ⟨_, rfl⟩
    subst hwb
    clear ho5 x0 x1 x2 x3 x4 x5 x6 x7 cR hMa hI0 ho6
    have HI := Lib.hid hI6
    unfold RAt at hI6
    obtain ⟨x0, x1, x2, x3, x4, x5, x6, x7, cR⟩ := hI6
    clear x0 x1 x2 x4 x5 x7 cR
    have eo := HOP.out
    subst eo
    have cS := fun (w2 : World) (ho : Only Nil w' w2) => set_any mb a rr cv _ iv ov s w2 (hM6.1.kept ho (fun h => h)) ha hrr
    have HM := Lib.hid hM6
    clear hM6
    go_wp2_with fail
    try (go_quiet (fail); go_wp2_with fail)
    refine (cS _ (by (repeat with_reducible first | exact Only.refl _ _ | refine Only.drewN ?_ _ | refine Only.drew ?_))).mono ?_
    rintro e w3 ⟨rfl, hB3, ho3⟩
    go_wp2_with fail
    go_ret
    rw [HRR.out]
    exact ⟨rfl, (ho6'.mono (fun _ h => h.elim)).trans ((by (repeat with_reducible first | exact Only.refl _ _ | refine Only.drewN ?_ _ | refine Only.drew ?_)) : Only (M.One mb) w' _) (fun _ _ h => h) |>.trans ho3 (fun _ _ h => h), (HM.out.quiet (by (repeat with_reducible first | exact Only.refl _ _ | refine Only.drewN ?_ _ | refine Only.drew ?_))).own ho3 hB3 rfl rfl rfl⟩


end Go.Proofs.Ythimhbfglgnohaa
