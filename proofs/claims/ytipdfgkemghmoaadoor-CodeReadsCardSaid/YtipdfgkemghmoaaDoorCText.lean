/- How the stack machine's instructions are told: both Texts. -/
import Derived.Test.YtipdfgkemghmoaaDoorCCodes
import Derived.Test.YtipdfgkemghmoaaDoorRTextM
import Derived.Test.YtipdfgkemghmoaaDoorShelf
import Derived.Deep.RegionHeld
import Derived.Deep.DrawnRows
import Derived.LoopTactic
set_option linter.unusedSimpArgs false
set_option linter.unusedVariables false
namespace Go.Proofs.YtipdfgkemghmoaaDoor
open Go.RowKit M
attribute [local go_sem ↓] Go.wp_at_zero Go.wp_at_succ

theorem str_of {a b : ByteArray} (h : a = b) : Ending.returned (.string a) = .returned (.string b) := by rw [h]
theorem dig_le (n : Nat) (h : n < 1000000000000000000) : (Lib.decDigits n).length ≤ 21 := by
  have := Lib.itoa_length_le (n : Int) (by omega) (by omega)
  rwa [Lib.itoa_nonneg] at this
theorem itoa_le (n : Int) (h : -9000000000000000000 ≤ n) (h2 : n ≤ 9000000000000000000) : (Lib.itoa n).length ≤ 21 := Lib.itoa_length_le n (by omega) (by omega)

theorem dig_one (n : Nat) (h : n < 10) : (⟨#[48, 49, 50, 51, 52, 53, 54, 55, 56, 57]⟩ : ByteArray).extract n (n + 1) = txt (Lib.decDigits n) := by
  rw [Lib.decDigits_one h]
  apply ByteArray.ext
  have : ∀ k : Fin 10, (#[48, 49, 50, 51, 52, 53, 54, 55, 56, 57] : Array UInt8).extract k.val (k.val + 1) = #[UInt8.ofNat (48 + k.val)] := by decide
  simpa [txt, ByteArray.data_extract] using this ⟨n, h⟩

set_option maxHeartbeats 400000 in
theorem dec_nat (n : Nat) : ∀ w : World, n < 1000000000000000 → Calls Tryd.prog 29 #[.int .i64 n] w fun e w' => e = .returned (.string (txt (Lib.decDigits n))) ∧ w' = w := by
  induction n using Nat.strongRecOn with
  | _ n ih =>
    intro w hn
    by_cases h : n < 10
    · have HE := Lib.hid (dig_one n h)
      clear ih
      go_enter Tryd.func29, Tryd.ntmps29
      go_wp2
      go_ret
      exact ⟨str_of HE.out, rfl⟩
    · have c1 := fun w => ih (n / 10) (by omega) w (by omega)
      have c2 := fun w => ih (n % 10) (by omega) w (by omega)
      have e : txt (Lib.decDigits n) = txt (Lib.decDigits (n / 10)) ++ txt (Lib.decDigits (n % 10)) := by
        rw [txt_append, Lib.decDigits_one (show n % 10 < 10 by omega)]
        conv => lhs; rw [Lib.decDigits, dif_neg h]
      have l1 := dig_le (n / 10) (by omega)
      have l2 := dig_le (n % 10) (by omega)
      rw [← txt_size] at l1 l2
      obtain ⟨x, hx⟩ : ∃ x, txt (Lib.decDigits (n / 10)) = x := ⟨_, rfl⟩
      obtain ⟨y, hy⟩ : ∃ y, txt (Lib.decDigits (n % 10)) = y := ⟨_, rfl⟩
      rw [hx] at c1 l1 e
      rw [hy] at c2 l2 e
      have HE := Lib.hid e
      have C1 := Lib.hid c1
      have C2 := Lib.hid c2
      clear ih e hx hy c1 c2
      go_enter Tryd.func29, Tryd.ntmps29
      go_wp2_with fail
      refine (C1.out _).mono ?_
      rintro e w1 ⟨rfl, rfl⟩
      go_wp2_with fail
      refine (C2.out _).mono ?_
      rintro e w2 ⟨rfl, rfl⟩
      go_wp2_with fail
      go_ret
      exact ⟨str_of HE.out.symm, rfl⟩

set_option maxHeartbeats 400000 in
theorem dec_any (n : Int) (w : World) (h1 : -100000000000 ≤ n) (h2 : n ≤ 100000000000) :
    Calls Tryd.prog 29 #[.int .i64 n] w fun e w' => e = .returned (.string (txt (Lib.itoa n))) ∧ w' = w := by
  by_cases h : 0 ≤ n
  · obtain ⟨k, rfl⟩ := Int.eq_ofNat_of_zero_le h
    have := dec_nat k w (by omega)
    rwa [← Lib.itoa_nonneg] at this
  · obtain ⟨k, hk⟩ : ∃ k : Nat, (k : Int) = -n := ⟨n.natAbs, by omega⟩
    have c := fun w => dec_nat k w (by omega)
    have e : txt (Lib.itoa n) = txt [45] ++ txt (Lib.decDigits k) := by
      rw [show n = -(k : Int) by omega, Lib.itoa_neg k (by omega), txt_append]; rfl
    have l1 := dig_le k (by omega)
    rw [← txt_size] at l1
    obtain ⟨x, hx⟩ : ∃ x, txt (Lib.decDigits k) = x := ⟨_, rfl⟩
    rw [hx] at c l1 e
    rw [hk] at c
    have HE := Lib.hid e
    have C1 := Lib.hid c
    have hn : n < 0 := by omega
    clear e hx c hk h
    go_enter Tryd.func29, Tryd.ntmps29
    go_wp2_with fail
    refine (C1.out _).mono ?_
    rintro e w1 ⟨rfl, rfl⟩
    go_wp2_with fail
    go_ret
    exact ⟨str_of HE.out.symm, rfl⟩

def namTab : List (List UInt8) := [[72, 97, 108, 116], [80, 117, 115, 104], [68, 117, 112], [68, 114, 111, 112], [83, 119, 97, 112], [76, 111, 99, 97, 108], [76, 111, 97, 100], [83, 116, 111, 114, 101], [77, 111, 118, 101], [65, 100, 100], [83, 117, 98], [77, 117, 108], [68, 105, 118], [77, 111, 100], [78, 101, 103], [65, 110, 100], [79, 114], [88, 111, 114], [73, 110, 118], [76, 115, 108], [65, 115, 114], [82, 111, 114], [69, 113], [76, 116], [76, 101], [74, 117, 109, 112], [90, 101, 114, 111], [67, 97, 108, 108, 84, 111], [69, 110, 116, 101, 114], [76, 101, 97, 118, 101], [82, 97, 105, 115, 101], [71, 101, 116, 99], [69, 110, 100, 99], [80, 117, 116, 99]]
def namT (o : Nat) : List UInt8 := namTab.getD o []
/-- An instruction's text. -/
def codT (c : Cod) : List UInt8 := if c.Good then (if hasK c.op then namT c.op.toNat ++ [32] ++ Lib.itoa c.k else namT c.op.toNat) else [63]
theorem namT_le (o : Nat) (h : o < 34) : (namT o).length ≤ 10 := by
  have : ∀ k : Fin 34, (namT k.val).length ≤ 10 := by decide
  exact this ⟨o, h⟩

/-- What the program's tables hold. -/
structure Tabs (w : World) : Prop where
  pow : Lib.TabIs Tryd.prog w "internal/strconv.uint64pow10" .u64 Lib.pow10Tab
  low : 1 < w.heap.size
  nam : ∀ o, o < 34 → w.cell? ⟨0, o, none⟩ = some (.string (txt (namT o)))
theorem powG : Tryd.prog.globalNamed "internal/strconv.uint64pow10" = some 1 := by kernel_rfl
theorem Tabs.kept {w w' : World} (h : Tabs w) (ho : Only Nil w w') : Tabs w' := by
  refine ⟨?_, Nat.lt_of_lt_of_le h.low ho.size, fun o hl => ho.cell (h.nam o hl) (fun h => h)⟩
  have h1 := h.pow
  have h2 := ho.block 1 h.low (fun h => h)
  unfold Lib.TabIs World.var? at h1 ⊢
  rw [powG, Option.bind_some] at h1 ⊢
  rw [h2]
  exact h1
theorem only_grow (w : World) (k : Nat) (os : Array Obj) : Only Nil w (Sort.grow (w.drewN k) os) := by
  refine ⟨rfl, rfl, rfl, ?_, fun i hi _ => ?_⟩
  · show w.heap.size ≤ (w.heap ++ os).size
    simp
  · show (w.heap ++ os)[i]? = w.heap[i]?
    exact Array.getElem?_append_left hi
theorem itoa_any (n : Int) (w : World) (h0 : -9223372036854775808 ≤ n) (h1 : n ≤ 9223372036854775807) (ht : Tabs w) :
    Calls Tryd.prog 27 #[.int .i64 n] w fun e w' => e = .returned (.string (txt (Lib.itoa n))) ∧ Only Nil w w' :=
  (Tryd.strconv_Itoa n h0 h1 w ht.pow).mono fun e w' ⟨he, k, os, hw⟩ => ⟨he, by rw [hw]; exact only_grow w k os⟩

set_option maxRecDepth 20000 in
set_option maxHeartbeats 1600000 in
theorem names_any (w : World) : Calls Tryd.prog 28 #[] w fun e w' => ∃ b, e = .returned (.slice (some ⟨b, 0, none⟩) 34 34) ∧ (∀ o, o < 34 → w'.cell? ⟨b, o, none⟩ = some (.string (txt (namT o)))) ∧ Only Nil w w' := by
  go_enter Tryd.func28, Tryd.ntmps28
  go_wp2
  go_ret
  refine ⟨_, rfl, fun o ho => ?_, (Only.refl _ _).alloc _⟩
  rw [(Blk.new w _ _).cell o]
  have : ∀ k : Fin 34, ((namTab.map fun l => Value.string (txt l)).toArray)[k.val]? = some (.string (txt (namT k.val))) := by
    intro k
    simp only [List.getElem?_toArray, List.getElem?_map]
    have : namTab[k.val]? = some (namT k.val) := by
      unfold namT
      rw [List.getD_eq_getElem?_getD, List.getElem?_eq_getElem (show k.val < namTab.length from k.isLt)]; rfl
    rw [this]; rfl
  exact this ⟨o, ho⟩

set_option maxRecDepth 20000 in
set_option maxHeartbeats 3200000 in
theorem textI (op k : Int) (w : World) (hT : Tabs w) (hk1 : -2147483648 ≤ k) (hk2 : k ≤ 2147483647) :
    Calls Tryd.prog 14 #[.agg #[.int .i64 op, .int .i32 k]] w fun e w' => e = .returned (.string (txt (codT ⟨op, k⟩))) ∧ Only Nil w w' := by
  by_cases hg : (Cod.mk op k).Good
  · have cG : ∀ w, Calls Tryd.prog 18 #[.agg #[.int .i64 op, .int .i32 k]] w fun e w' => e = .returned (.bool true) ∧ Only Nil w w' := fun w => by
      have := isRight_any op k w
      rwa [decide_eq_true hg] at this
    have hg1 := hg.1
    have hg2 := hg.2.1
    simp only at hg1 hg2
    obtain ⟨o, rfl⟩ := Int.eq_ofNat_of_zero_le hg1
    have ho34 : o < 34 := by omega
    have hn := hT.nam o ho34
    have hz := World.block_lt_of_cell? w _ hn
    simp only at hz
    have hnl := namT_le o ho34
    have hil := itoa_le k (by omega) (by omega)
    rw [← txt_size] at hnl hil
    have e : codT ⟨o, k⟩ = if hasK (o : Int) then namT o ++ [32] ++ Lib.itoa k else namT o := by unfold codT; rw [if_pos hg]; simp
    have cI := fun w (h : Tabs w) => itoa_any k w (by omega) (by omega) h
    have e2 : txt (namT o ++ [32] ++ Lib.itoa k) = txt (namT o) ++ txt [32] ++ txt (Lib.itoa k) := by rw [txt_append, txt_append]
    have cH := fun w => has_any (o : Int) w
    have hkw : IntKind.i64.wrap k = k := by rw [IntKind.wrap_i64]; omega
    cases hh : hasK (o : Int)
    · rw [hh] at e cH
      simp only [Bool.false_eq_true, if_false] at e
      rw [e]
      obtain ⟨x, hx⟩ : ∃ x, txt (namT o) = x := ⟨_, rfl⟩
      rw [hx] at hn hnl ⊢
      clear e e2 hg hh hx cI hil
      go_enter Tryd.func14, Tryd.ntmps14
      go_wp2_with fail
      refine (cG _).mono ?_
      rintro e w1 ⟨rfl, ho1⟩
      have hB := (Blk.new w #[Value.int .i64 o, .int .i32 k] 26).kept ho1 (fun h => h)
      have hoW : Only Nil w w1 := ((Only.refl Nil w).alloc _).trans ho1 (fun _ _ h => h)
      have hn1 := hoW.cell hn (fun h => h)
      have b0 := hB.cell 0
      have b1 := hB.cell 1
      simp only [List.getElem?_toArray, List.getElem?_cons_zero, List.getElem?_cons_succ] at b0 b1
      clear hn cG
      go_wp2_with fail
      refine (cH _).mono ?_
      rintro e w2 ⟨rfl, rfl⟩
      go_wp2_with fail
      go_ret
      exact ⟨rfl, hoW⟩
    · rw [hh] at e cH
      simp only [if_true] at e
      rw [e]
      obtain ⟨x, hx⟩ : ∃ x, txt (namT o) = x := ⟨_, rfl⟩
      obtain ⟨y, hy⟩ : ∃ y, txt (Lib.itoa k) = y := ⟨_, rfl⟩
      rw [hx, hy] at e2
      rw [hx] at hn hnl
      rw [hy] at cI hil
      have HE := Lib.hid e2
      clear e e2 hg hh hx hy
      go_enter Tryd.func14, Tryd.ntmps14
      go_wp2_with fail
      refine (cG _).mono ?_
      rintro e w1 ⟨rfl, ho1⟩
      have hB := (Blk.new w #[Value.int .i64 o, .int .i32 k] 26).kept ho1 (fun h => h)
      have hoW : Only Nil w w1 := ((Only.refl Nil w).alloc _).trans ho1 (fun _ _ h => h)
      have hn1 := hoW.cell hn (fun h => h)
      have hT1 := hT.kept hoW
      obtain ⟨bk, hbk⟩ : ∃ b, w.heap.size = b := ⟨_, rfl⟩
      rw [hbk] at hB ⊢
      have b0 := hB.cell 0
      have b1 := hB.cell 1
      simp only [List.getElem?_toArray, List.getElem?_cons_zero, List.getElem?_cons_succ] at b0 b1
      clear hn cG hT hbk
      go_wp2_with fail
      refine (cH _).mono ?_
      rintro e w2 ⟨rfl, rfl⟩
      clear cH
      have keep : ∀ w', Only Nil w1 w' → w'.cell? ⟨bk, 0, none⟩ = some (.int .i64 o) ∧ w'.cell? ⟨bk, 1, none⟩ = some (.int .i32 k) ∧ w'.cell? ⟨0, o, none⟩ = some (.string x) ∧ Only Nil w1 w' := fun w' h => ⟨h.cell b0 (fun h => h), h.cell b1 (fun h => h), h.cell hn1 (fun h => h), h⟩
      have KEEP := Lib.hid keep
      have z1 : x.size ≤ 9223372036854775806 := by omega
      have z2 : x.size + 1 ≤ 9223372036854775807 := by omega
      have z3 : x.size + 1 + y.size ≤ 9223372036854775807 := by omega
      have z6 : x.size + (⟨#[32]⟩ : ByteArray).size ≤ 9223372036854775807 := by rw [show (⟨#[32]⟩ : ByteArray).size = 1 from rfl]; omega
      have z7 : (x ++ (⟨#[32]⟩ : ByteArray)).size + y.size ≤ 9223372036854775807 := by rw [ByteArray.size_append, show (⟨#[32]⟩ : ByteArray).size = 1 from rfl]; omega
      have z8 : x.size + (⟨#[32]⟩ : ByteArray).size + y.size ≤ 9223372036854775807 := by rw [show (⟨#[32]⟩ : ByteArray).size = 1 from rfl]; omega
      have z4 : (x.size : Int) ≤ 8388608 := by omega
      have z5 : (y.size : Int) ≤ 8388608 := by omega
      clear keep
      go_wp2_with fail
      go_region_held (fun w' => w'.cell? ⟨bk, 0, none⟩ = some (.int .i64 o) ∧ w'.cell? ⟨bk, 1, none⟩ = some (.int .i32 k) ∧ w'.cell? ⟨0, o, none⟩ = some (.string x) ∧ Only Nil w1 w')
        (first | (assumption) | (exact KEEP.out _ (Only.refl _ _).drew) | (go_split_ands; exact KEEP.out _ (Only.trans (by assumption) ho2 (fun _ _ h => h))))
        (first | (go_at_call 27; refine (cI _ ?_).mono ?_; (go_split_ands; exact hT1.kept (by assumption)); rintro e w' ⟨rfl, ho2⟩))
      all_goals
        go_wp2_with fail
        go_ret
        refine ⟨str_of HE.out.symm, ?_⟩
        go_split_ands
        exact hoW.trans (by assumption) (fun _ _ h => h)
  · have cG : ∀ w, Calls Tryd.prog 18 #[.agg #[.int .i64 op, .int .i32 k]] w fun e w' => e = .returned (.bool false) ∧ Only Nil w w' := fun w => by
      have := isRight_any op k w
      rwa [decide_eq_false hg] at this
    have e : codT ⟨op, k⟩ = [63] := by unfold codT; rw [if_neg hg]
    rw [e]
    clear e hg
    go_enter Tryd.func14, Tryd.ntmps14
    go_wp2_with fail
    refine (cG _).mono ?_
    rintro e w1 ⟨rfl, ho1⟩
    go_wp2_with fail
    go_ret
    exact ⟨rfl, ((Only.refl Nil w).alloc _).trans ho1 (fun _ _ h => h)⟩
end Go.Proofs.YtipdfgkemghmoaaDoor
