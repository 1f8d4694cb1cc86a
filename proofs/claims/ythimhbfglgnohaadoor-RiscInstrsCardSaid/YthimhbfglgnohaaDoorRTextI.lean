/- The program's Text. -/
import Derived.Test.YthimhbfglgnohaaDoorRText
import Derived.Deep.RegionHeld3
import Derived.Deep.DrawnRows
import Derived.Deep.CutBlock
import Derived.Deep.DeepCutAuto
import Derived.Outline
namespace Go.Proofs.YthimhbfglgnohaaDoor
open Go.RowKit M
attribute [local go_sem ↓] Go.wp_at_zero Go.wp_at_succ

/-- What the program's tables hold. -/
structure Tabs (w : World) : Prop where
  pow : Lib.TabIs Tryd.prog w "internal/strconv.uint64pow10" .u64 Lib.pow10Tab
  low : 2 < w.heap.size
  ops : ∀ o, o < 16 → w.cell? ⟨0, o, none⟩ = some (.string (txt (opTab.getD o [])))
  cnd : ∀ o, o < 16 → w.cell? ⟨1, o, none⟩ = some (.string (txt (cndTab.getD o [])))

theorem powG : Tryd.prog.globalNamed "internal/strconv.uint64pow10" = some 2 := by kernel_rfl
theorem Tabs.kept {w w' : World} (h : Tabs w) (ho : Only Nil w w') : Tabs w' := by
  refine ⟨?_, Nat.lt_of_lt_of_le h.low ho.size, fun o hl => ho.cell (h.ops o hl) (fun h => h), fun o hl => ho.cell (h.cnd o hl) (fun h => h)⟩
  have h1 := h.pow
  have h2 := ho.block 2 h.low (fun h => h)
  unfold Lib.TabIs World.var? at h1 ⊢
  rw [powG, Option.bind_some] at h1 ⊢
  rw [h2]
  exact h1

theorem only_grow (w : World) (k : Nat) (os : Array Obj) : Only Nil w (Sort.grow (w.drewN k) os) := by
  refine ⟨rfl, rfl, rfl, ?_, fun i hi _ => ?_⟩
  · show w.heap.size ≤ (w.heap ++ os).size
    simp
  · show (w.heap ++ os)[i]? = w.heap[i]?
    exact Array.getElem?_append_left hi

theorem itoa_any (n : Int) (w : World) (h0 : -9223372036854775808 ≤ n) (h1 : n ≤ 9223372036854775807) (ht : Tabs w) :
    Calls Tryd.prog 18 #[.int .i64 n] w fun e w' => e = .returned (.string (txt (Lib.itoa n))) ∧ Only Nil w w' :=
  (Tryd.strconv_Itoa n h0 h1 w ht.pow).mono fun e w' ⟨he, k, os, hw⟩ => ⟨he, by rw [hw]; exact only_grow w k os⟩

/-- The cells of an instruction, the tables, the frame: what a region that reads them keeps. -/
def InsAt (bk : Nat) (F : Int) (u v : Bool) (a b c o : Nat) (m : Int) (w' : World) : Prop :=
  w'.cell? ⟨bk, 0, none⟩ = some (.int .i64 F) ∧ w'.cell? ⟨bk, 1, none⟩ = some (.bool u) ∧ w'.cell? ⟨bk, 2, none⟩ = some (.bool v) ∧ w'.cell? ⟨bk, 3, none⟩ = some (.int .i64 a) ∧
  w'.cell? ⟨bk, 4, none⟩ = some (.int .i64 b) ∧ w'.cell? ⟨bk, 5, none⟩ = some (.int .i64 c) ∧ w'.cell? ⟨bk, 6, none⟩ = some (.int .i64 o) ∧ w'.cell? ⟨bk, 7, none⟩ = some (.int .i32 m)
theorem insAt {w : World} {bk : Nat} {F : Int} {u v : Bool} {a b c o : Nat} {m : Int} (h : Blk w bk #[Value.int .i64 F, .bool u, .bool v, .int .i64 a, .int .i64 b, .int .i64 c, .int .i64 o, .int .i32 m] 26) : InsAt bk F u v a b c o m w :=
  ⟨h.cell 0, h.cell 1, h.cell 2, h.cell 3, h.cell 4, h.cell 5, h.cell 6, h.cell 7⟩
theorem InsAt.kept {w w' : World} {bk : Nat} {F : Int} {u v : Bool} {a b c o : Nat} {m : Int} (h : InsAt bk F u v a b c o m w) (ho : Only Nil w w') : InsAt bk F u v a b c o m w' :=
  ⟨ho.cell h.1 (fun h => h), ho.cell h.2.1 (fun h => h), ho.cell h.2.2.1 (fun h => h), ho.cell h.2.2.2.1 (fun h => h), ho.cell h.2.2.2.2.1 (fun h => h), ho.cell h.2.2.2.2.2.1 (fun h => h), ho.cell h.2.2.2.2.2.2.1 (fun h => h), ho.cell h.2.2.2.2.2.2.2 (fun h => h)⟩

theorem newN (w : World) (xs : List (List UInt8)) (cs : Array Value) (t : TypeId) (h : cs = (xs.map fun l => Value.string (txt l)).toArray) :
    ∀ (j : Nat) x, xs[j]? = some x → (w.alloc (.cells cs t)).cell? ⟨w.heap.size, j, none⟩ = some (.string (txt x)) := by
  intro j x hj
  rw [(Blk.new w cs t).cell j, h]
  simp [hj]
theorem regT_le (n : Nat) (h : n < 16) : (regT n).length ≤ 22 := by
  have := dig_le n (by omega)
  unfold regT; rw [Lib.itoa_nonneg]; simp only [List.length_cons]; omega
theorem opT_le (u v : Bool) (o : Nat) (ho : o < 16) : (opT u v o).length ≤ 100 := by
  have : ∀ (u v : Bool) (k : Fin 16), (opT u v (k.val : Int)).length ≤ 100 := by decide
  exact this u v ⟨o, ho⟩
theorem memT_le (u v : Bool) : (memT u v).length ≤ 100 := by cases u <;> cases v <;> decide
theorem brT_le (v : Bool) (o : Nat) (ho : o < 16) : (brT v o).length ≤ 100 := by
  have : ∀ (v : Bool) (k : Fin 16), (brT v (k.val : Int)).length ≤ 100 := by decide
  exact this v ⟨o, ho⟩
theorem wrap64_in (m : Int) (h1 : -9223372036854775808 ≤ m) (h2 : m ≤ 9223372036854775807) : IntKind.i64.wrap m = m := by
  rw [IntKind.wrap_i64]; omega

set_option maxRecDepth 100000 in
set_option maxHeartbeats 6400000 in
theorem text_any (F : Int) (u v : Bool) (a b c o : Nat) (m : Int) (w : World) (ha : a < 16) (hb : b < 16) (hc : c < 16) (ho : o < 16) (hm1 : -2147483648 ≤ m) (hm2 : m ≤ 2147483647) (hT : Tabs w) (hg : (Ins.mk F u v a b c o m).Good) :
    Calls Tryd.prog 9 #[(Ins.mk F u v a b c o m).val] w fun e w' => e = .returned (.string (txt (insT (Ins.mk F u v a b c o m)))) ∧ Only Nil w w' := by
  obtain ⟨E, hE⟩ : ∃ E, enc (Ins.mk F u v a b c o m) = E := ⟨_, rfl⟩
  have cE : ∀ w, Calls Tryd.prog 8 #[(Ins.mk F u v a b c o m).val] w fun e w' => e = .returned (.tuple #[.int .u32 (E : Int), .int .i64 0]) ∧ Only Nil w w' := fun w =>
    (encI_any F u v a b c o m w).mono fun e w' ⟨h, ho⟩ => ⟨h.elim (fun h => hE ▸ h.2) (fun h => absurd hg h.1), ho⟩
  unfold Ins.val Ins.cells at cE
  simp only at cE
  unfold Ins.val Ins.cells
  have HG := Lib.hid hg
  clear hg hE
  go_enter Tryd.func9, Tryd.ntmps9
  go_wp2_with fail
  refine (cE _).mono ?_
  rintro e w1 ⟨rfl, ho1⟩
  have hB := (Blk.new w #[Value.int .i64 F, .bool u, .bool v, .int .i64 a, .int .i64 b, .int .i64 c, .int .i64 o, .int .i32 m] 26).kept ho1 (fun h => h)
  have hoW : Only Nil w w1 := ((Only.refl Nil w).alloc _).trans ho1 (fun _ _ h => h)
  have hT1 := hT.kept hoW
  obtain ⟨bk, hbk⟩ : ∃ b, w.heap.size = b := ⟨_, rfl⟩
  rw [hbk] at hB ⊢
  have hI := insAt hB
  clear ho1 cE hbk hT hB
  go_upto_region 4 with fail
  go_cut [5, 6, 7, 8] (fun s5 s6 s7 s8 w2 => s5 = .string (txt (regT a)) ∧ s6 = .string (txt (regT b)) ∧ s7 = .string (txt (regT c)) ∧ s8 = .string (txt (Lib.itoa m)) ∧ Only Nil w1 w2)
  case first =>
    have hI0 := hI
    have hwm : IntKind.i64.wrap m = m := wrap64_in m (by omega) (by omega)
    unfold InsAt at hI
    obtain ⟨b0, b1, b2, b3, b4, b5, b6, b7⟩ := hI
    go_wp2_with fail
    go_region_held3 (fun w' => (w'.cell? ⟨bk, 0, none⟩ = some (.int .i64 F) ∧ w'.cell? ⟨bk, 1, none⟩ = some (.bool u) ∧ w'.cell? ⟨bk, 2, none⟩ = some (.bool v) ∧ w'.cell? ⟨bk, 3, none⟩ = some (.int .i64 a) ∧
        w'.cell? ⟨bk, 4, none⟩ = some (.int .i64 b) ∧ w'.cell? ⟨bk, 5, none⟩ = some (.int .i64 c) ∧ w'.cell? ⟨bk, 6, none⟩ = some (.int .i64 o) ∧ w'.cell? ⟨bk, 7, none⟩ = some (.int .i32 m)) ∧ Only Nil w1 w')
      (first | (assumption) | (exact ⟨hI0.kept (Only.refl _ _).drew, (Only.refl _ _).drew⟩) | (go_split_ands; exact ⟨hI0.kept (Only.trans (by assumption) ho2 (fun _ _ h => h)), Only.trans (by assumption) ho2 (fun _ _ h => h)⟩))
      (first | (go_at_call 17; refine (register_any _ _ (by assumption)).mono ?_; rintro e w' ⟨rfl, rfl⟩) | (go_at_call 18; refine (itoa_any _ _ (by omega) (by omega) ?_).mono ?_; (go_split_ands; exact hT1.kept (by assumption)); rintro e w' ⟨rfl, ho2⟩))
    all_goals
      apply_assumption
      apply_assumption
      (repeat apply Exists.intro)
      refine ⟨⟨rfl, rfl, rfl, rfl, ?_⟩, rfl⟩
      go_split_ands
      assumption
  case rest =>
    obtain ⟨rfl, rfl, rfl, rfl, ho2⟩ := hcut
    have hT2 := hT1.kept ho2
    have hI2 := hI.kept ho2
    have hoW2 := hoW.trans ho2 (fun _ _ h => h)
    clear hT1 hI ho2 hoW
    unfold InsAt at hI2
    obtain ⟨b0, b1, b2, b3, b4, b5, b6, b7⟩ := hI2
    have r1 := regT_le a ha
    have r2 := regT_le b hb
    have r3 := regT_le c hc
    have r4 := itoa_le m (by omega) (by omega)
    go_wp2_with fail
    · have hF : F = 0 := by simpa using ‹(F == 0) = true›
      have HF := Lib.hid hF
      clear hF
      refine (op_any F u v a b c o m wc ho (hT2.ops o ho)).mono ?_
      rintro e w3 ⟨rfl, ho3⟩
      have hsz := ho3.size
      go_wp2_with fail
      refine (line_any (opT u v o) w3.heap.size 3 [regT a, regT b, regT c] _ (opT_le u v o ho) (newN w3 [regT a, regT b, regT c] _ 9 rfl) (by simp) (by simp) (by simp) (by rw [join3]; (try simp only [List.length_append, List.length_cons, List.length_nil]); omega)).mono ?_
      rintro e w4 ⟨rfl, ho4⟩
      go_wp2_with fail
      go_ret
      refine ⟨str_of (congrArg txt ?_), hoW2.trans (ho3.trans (((Only.refl Nil _).alloc _).trans ho4 (fun _ _ h => h)) (fun _ _ h => h)) (fun _ _ h => h)⟩
      have hF := HF.out
      unfold insT; rw [if_pos hF]
    · have hF : F = 1 := by simpa using ‹(F == 1) = true›
      have HF := Lib.hid hF
      clear hF
      refine (op_any F u v a b c o m wc ho (hT2.ops o ho)).mono ?_
      rintro e w3 ⟨rfl, ho3⟩
      have hsz := ho3.size
      go_wp2_with fail
      refine (line_any (opT u v o) w3.heap.size 3 [regT a, regT b, Lib.itoa m] _ (opT_le u v o ho) (newN w3 [regT a, regT b, Lib.itoa m] _ 9 rfl) (by simp) (by simp) (by simp) (by rw [join3]; (try simp only [List.length_append, List.length_cons, List.length_nil]); omega)).mono ?_
      rintro e w4 ⟨rfl, ho4⟩
      go_wp2_with fail
      go_ret
      refine ⟨str_of (congrArg txt ?_), hoW2.trans (ho3.trans (((Only.refl Nil _).alloc _).trans ho4 (fun _ _ h => h)) (fun _ _ h => h)) (fun _ _ h => h)⟩
      have hF := HF.out
      unfold insT; rw [if_neg (by simp [hF]), if_pos hF]
    · have hF : F = 2 := by simpa using ‹(F == 2) = true›
      have HF := Lib.hid hF
      clear hF
      refine (access_any F u v a b c o m wc).mono ?_
      rintro e w3 ⟨rfl, ho3⟩
      have hsz := ho3.size
      go_wp2_with fail
      refine (line_any (memT u v) w3.heap.size 3 [regT a, regT b, Lib.itoa m] _ (memT_le u v) (newN w3 [regT a, regT b, Lib.itoa m] _ 9 rfl) (by simp) (by simp) (by simp) (by rw [join3]; (try simp only [List.length_append, List.length_cons, List.length_nil]); omega)).mono ?_
      rintro e w4 ⟨rfl, ho4⟩
      go_wp2_with fail
      go_ret
      refine ⟨str_of (congrArg txt ?_), hoW2.trans (ho3.trans (((Only.refl Nil _).alloc _).trans ho4 (fun _ _ h => h)) (fun _ _ h => h)) (fun _ _ h => h)⟩
      have hF := HF.out
      unfold insT; rw [if_neg (by simp [hF]), if_neg (by simp [hF]), if_pos hF]
    · have hF : F ≠ 0 ∧ F ≠ 1 ∧ F ≠ 2 := by simp_all
      obtain rfl : u = true := by simp_all
      have HF := Lib.hid hF
      clear hF
      refine (branch_any F true v a b c o m wc ha (hT2.cnd a ha)).mono ?_
      rintro e w3 ⟨rfl, ho3⟩
      have hsz := ho3.size
      go_wp2_with fail
      refine (line_any (brT v a) w3.heap.size 1 [Lib.itoa m] _ (brT_le v a ha) (newN w3 [Lib.itoa m] _ 9 rfl) (by simp) (by simp) (by simp) (by rw [join1]; (try simp only [List.length_append, List.length_cons, List.length_nil]); omega)).mono ?_
      rintro e w4 ⟨rfl, ho4⟩
      go_wp2_with fail
      go_ret
      refine ⟨str_of (congrArg txt ?_), hoW2.trans (ho3.trans (((Only.refl Nil _).alloc _).trans ho4 (fun _ _ h => h)) (fun _ _ h => h)) (fun _ _ h => h)⟩
      have hF := HF.out
      unfold insT; rw [if_neg hF.1, if_neg hF.2.1, if_neg hF.2.2, if_pos rfl]
    · have hF : F ≠ 0 ∧ F ≠ 1 ∧ F ≠ 2 := by simp_all
      obtain rfl : u = false := by simp_all
      have HF := Lib.hid hF
      clear hF
      refine (branch_any F false v a b c o m wc ha (hT2.cnd a ha)).mono ?_
      rintro e w3 ⟨rfl, ho3⟩
      have hsz := ho3.size
      go_wp2_with fail
      refine (line_any (brT v a) w3.heap.size 2 [regT c, Lib.itoa m] _ (brT_le v a ha) (newN w3 [regT c, Lib.itoa m] _ 9 rfl) (by simp) (by simp) (by simp) (by rw [join2]; (try simp only [List.length_append, List.length_cons, List.length_nil]); omega)).mono ?_
      rintro e w4 ⟨rfl, ho4⟩
      go_wp2_with fail
      go_ret
      refine ⟨str_of (congrArg txt ?_), hoW2.trans (ho3.trans (((Only.refl Nil _).alloc _).trans ho4 (fun _ _ h => h)) (fun _ _ h => h)) (fun _ _ h => h)⟩
      have hF := HF.out
      unfold insT; rw [if_neg hF.1, if_neg hF.2.1, if_neg hF.2.2, if_neg (by simp)]
end Go.Proofs.YthimhbfglgnohaaDoor
