/- How types are told: the program's Text, of an array of a basic type, and of a basic type. -/
import Derived.Test.YtcbeibhmjokecaaDoorYBasic
import Derived.Test.YtcbeibhmjokecaaDoorShelf
import Derived.Lib.ItoaNum
import Derived.Lib.ItoaMem
import Derived.Lib.ItoaLen
import Derived.Deep.RegionHeld
import Derived.Deep.DrawnRows
set_option linter.unusedSimpArgs false
set_option linter.unusedVariables false
namespace Go.Proofs.YtcbeibhmjokecaaDoor
open Go.RowKit M

/-- A text out of its bytes. -/
def txB (l : List UInt8) : ByteArray := ⟨l.toArray⟩
theorem txB_size (l : List UInt8) : (txB l).size = l.length := by unfold txB ByteArray.size; simp
theorem txB_append (l m : List UInt8) : txB l ++ txB m = txB (l ++ m) := by
  apply ByteArray.ext
  simp [txB, ByteArray.data_append]
/-- What the library's table holds. -/
structure Tabs (w : World) : Prop where
  pow : Lib.TabIs Tryd.prog w "internal/strconv.uint64pow10" .u64 Lib.pow10Tab
  low : 0 < w.heap.size
theorem powG : Tryd.prog.globalNamed "internal/strconv.uint64pow10" = some 0 := by kernel_rfl
theorem Tabs.kept {w w' : World} (h : Tabs w) (ho : Only Nil w w') : Tabs w' := by
  refine ⟨?_, Nat.lt_of_lt_of_le h.low ho.size⟩
  have h1 := h.pow
  have h2 := ho.block 0 h.low (fun h => h)
  unfold Lib.TabIs World.var? at h1 ⊢
  rw [powG, Option.bind_some] at h1 ⊢
  rw [h2]
  exact h1
theorem only_grow (w : World) (k : Nat) (os : Array Obj) : Only Nil w (Sort.grow (w.drewN k) os) := by
  refine ⟨rfl, rfl, rfl, ?_, fun i hi _ => ?_⟩
  · show w.heap.size ≤ (w.heap ++ os).size
    simp
  · show (w.heap ++ os)[i]? = w.heap[i]?
    exact Array.getElem?_append_left hi
theorem itoa_any (n : Int) (w : World) (h0 : -9223372036854775808 ≤ n) (h1 : n ≤ 9223372036854775807) (ht : Tabs w) :
    Calls Tryd.prog 43 #[.int .i64 n] w fun e w' => e = .returned (.string (txB (Lib.itoa n))) ∧ Only Nil w w' :=
  (Tryd.strconv_Itoa n h0 h1 w ht.pow).mono fun e w' ⟨he, k, os, hw⟩ => ⟨he, by rw [hw]; exact only_grow w k os⟩
theorem itoa_le (n : Int) (h : -9000000000000000000 ≤ n) (h2 : n ≤ 9000000000000000000) : (Lib.itoa n).length ≤ 21 := Lib.itoa_length_le n (by omega) (by omega)
/-- How a basic type is told. -/
def basT (f : Int) : List UInt8 :=
  if f = 1 then [73, 78, 84, 69, 71, 69, 82] else if f = 2 then [67, 72, 65, 82] else if f = 3 then [66, 79, 79, 76, 69, 65, 78] else [83, 69, 84]
set_option maxHeartbeats 1600000 in
theorem textP_bas (f : Int) (hf : f = 1 ∨ f = 2 ∨ f = 3 ∨ f = 4) (n : Int) (s : ByteArray) (ao : Option Addr) (k cap : Nat) (w : World) : Calls Tryd.prog 26 #[.agg #[.int .i64 f, .int .i64 n, .string s, .slice ao k cap]] w fun e w' => e = .returned (.string (txB (basT f))) ∧ Only Nil w w' := by
  rcases hf with rfl | rfl | rfl | rfl
  all_goals
    go_enter Tryd.func26, Tryd.ntmps26
    go_wp2
    go_ret
    exact ⟨rfl, (Only.refl Nil w).alloc _⟩
set_option maxHeartbeats 1600000 in
theorem ofTextP_bas (f : Int) (hf : f = 1 ∨ f = 2 ∨ f = 3 ∨ f = 4) (ov : Value) (w : World) (h : TyS Any w ov [bas f]) : Calls Tryd.prog 44 #[ov] w fun e w' => e = .returned (.string (txB (basT f))) ∧ Only Nil w w' := by
  obtain ⟨l, ao, cap, off, b, ovs, h0, h1, hb, hn, hs, hc, hr, hl, e⟩ : ∃ (l : List Ty) (ao : Option Addr) (cap off b : Nat) (ovs : Nat → Value), (0 < l.length → ao = some ⟨b, off, none⟩) ∧ (ao = none → cap = 0) ∧ True ∧ True ∧ True ∧ (∀ i t, l[i]? = some t → At w b (off + i * 4) (tyCells t (ovs i))) ∧ (∀ i t, l[i]? = some t → TyS Any w (ovs i) t.of) ∧ l = [bas f] ∧ ov = .slice ao l.length cap := by
    cases h with
    | mk l ao cap off b ovs h0 h1 hb hn hs hc hr => exact ⟨_, ao, cap, off, b, ovs, h0, h1, trivial, trivial, trivial, hc, hr, rfl, rfl⟩
  subst hl
  have e1 := h0 (by show 0 < 1; decide)
  subst e1
  subst e
  have a1 := hc 0 _ rfl
  have hr0 := hr 0 _ rfl
  obtain ⟨ao3, cap3, e3⟩ := hr0.slice
  rw [e3] at a1
  unfold tyCells at a1
  rw [Nat.zero_mul, Nat.add_zero] at a1
  have b0 : w.cell? ⟨b, off, none⟩ = some (.int .i64 f) := a1.get0
  have b1 : w.cell? ⟨b, off + 1, none⟩ = some (.int .i64 0) := a1.get 1 rfl
  have b2 : w.cell? ⟨b, off + 2, none⟩ = some (.string ⟨#[]⟩) := a1.get 2 rfl
  have b3 : w.cell? ⟨b, off + 3, none⟩ = some (.slice ao3 0 cap3) := a1.get 3 rfl
  have C := Lib.hid (fun w => textP_bas f hf 0 ⟨#[]⟩ ao3 0 cap3 w)
  have c1 : ([bas f] : List Ty).length = 1 := rfl
  rw [c1]
  clear a1 hr0 e3 hc hr h0 h1 hf c1
  go_enter Tryd.func44, Tryd.ntmps44
  go_wp2_with fail
  refine (C.out _).mono ?_
  rintro e w3 ⟨rfl, ho3⟩
  clear C
  go_wp2_with fail
  go_ret
  exact ⟨rfl, ho3⟩
theorem str_of {a b : ByteArray} (h : a = b) : Ending.returned (.string a) = .returned (.string b) := by rw [h]
def arrT (n : Int) (f : Int) : List UInt8 := [65, 82, 82, 65, 89, 32] ++ Lib.itoa n ++ [32, 79, 70, 32] ++ basT f
theorem basT_le (f : Int) : (basT f).length ≤ 7 := by unfold basT; split <;> (try split) <;> (try split) <;> decide
set_option maxRecDepth 20000 in
set_option maxHeartbeats 1600000 in
theorem textP_arr (n : Int) (hn : 0 ≤ n) (hn2 : n ≤ 1024) (f : Int) (hf : f = 1 ∨ f = 2 ∨ f = 3 ∨ f = 4) (s : ByteArray) (ov : Value) (w : World) (hT : Tabs w) (h : TyS Any w ov [bas f]) :
    Calls Tryd.prog 26 #[.agg #[.int .i64 7, .int .i64 n, .string s, ov]] w fun e w' => e = .returned (.string (txB (arrT n f))) ∧ Only Nil w w' := by
  obtain ⟨ao, cap, rfl⟩ := h.slice
  have c1 : ([bas f] : List Ty).length = 1 := rfl
  rw [c1] at h ⊢
  have CO := Lib.hid (fun w' (ho : Only Nil w w') => ofTextP_bas f hf _ w' (h.go ho))
  have CI := Lib.hid (fun w' (ho : Only Nil w w') => itoa_any n w' (by omega) (by omega) (hT.kept ho))
  have l1 := itoa_le n (by omega) (by omega)
  have l2 := basT_le f
  have e : txB (arrT n f) = txB [65, 82, 82, 65, 89, 32] ++ txB (Lib.itoa n) ++ txB [32, 79, 70, 32] ++ txB (basT f) := by rw [txB_append, txB_append, txB_append]; rfl
  rw [← txB_size] at l1 l2
  obtain ⟨x, hx⟩ : ∃ x, txB (Lib.itoa n) = x := ⟨_, rfl⟩
  obtain ⟨y, hy⟩ : ∃ y, txB (basT f) = y := ⟨_, rfl⟩
  rw [hx] at l1 e CI
  rw [hy] at l2 e CO
  have HE := Lib.hid e
  have z0 : (⟨#[65, 82, 82, 65, 89, 32]⟩ : ByteArray).size = 6 := rfl
  have z1 : (⟨#[32, 79, 70, 32]⟩ : ByteArray).size = 4 := rfl
  have z2 : ((⟨#[65, 82, 82, 65, 89, 32]⟩ : ByteArray) ++ x).size = 6 + x.size := by rw [ByteArray.size_append, z0]
  have z3 : ((⟨#[65, 82, 82, 65, 89, 32]⟩ : ByteArray) ++ x ++ (⟨#[32, 79, 70, 32]⟩ : ByteArray)).size = 6 + x.size + 4 := by rw [ByteArray.size_append, z2, z1]
  have k1 : ¬ 9223372036854775807 < 6 + x.size := by omega
  have k3 : ¬ 9223372036854775807 < 6 + x.size + 4 := by omega
  have k5 : ¬ 9223372036854775807 < 6 + x.size + 4 + y.size := by omega
  clear e hx hy c1 h hT hn hn2 hf
  go_enter Tryd.func26, Tryd.ntmps26
  go_wp2_with fail
  obtain ⟨bk, hbk⟩ : ∃ z, w.heap.size = z := ⟨_, rfl⟩
  have hB := Blk.new w #[.int .i64 7, .int .i64 n, .string s, .slice ao 1 cap] 25
  rw [hbk] at hB ⊢
  have o1 := alloc0 w (.cells #[.int .i64 7, .int .i64 n, .string s, .slice ao 1 cap] 25)
  obtain ⟨w1, hw1⟩ : ∃ z, w.alloc (.cells #[.int .i64 7, .int .i64 n, .string s, .slice ao 1 cap] 25) = z := ⟨_, rfl⟩
  rw [hw1] at hB o1 ⊢
  have O1 := Lib.hid o1
  have b1 := fun n' : NilW w1 => n'.cell (show w1.cell? ⟨bk, 1, none⟩ = some (.int .i64 n) from hB.cell 1)
  have b3 := fun n' : NilW w1 => n'.cell (show w1.cell? ⟨bk, 3, none⟩ = some (.slice ao 1 cap) from hB.cell 3)
  clear hw1 o1 hB hbk
  refine wp_region_nilq (by kernel_rfl) (by kernel_rfl) ?_
  repeat (quiet_step (first | (go_at_call 43; exact Calls.nilq_of (CI.out _ (Nil.trans O1.out (NilW.only _)))) | (go_at_call 44; exact Calls.nilq_of (CO.out _ (Nil.trans O1.out (NilW.only _))))))
  refine wpQuiet_nil ?_
  intro w3 h3
  obtain ⟨n3, e3⟩ := h3
  have h3 := n3.only
  rw [← e3] at h3
  clear e3 n3
  have HO3 := Lib.hid (Nil.trans O1.out h3)
  clear b1 b3 h3 CO CI
  go_wp2_with fail
  go_ret
  exact ⟨str_of HE.out.symm, HO3.out⟩
end Go.Proofs.YtcbeibhmjokecaaDoor
