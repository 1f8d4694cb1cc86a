/- The small functions of texts, by contracts. -/
import Derived.Test.YthimhbfglgnohaaDoorREncI
import Derived.Test.YthimhbfglgnohaaDoorRTextM
import Derived.Test.YthimhbfglgnohaaDoorShelf
import Derived.LoopTactic
namespace Go.Proofs.YthimhbfglgnohaaDoor
open Go.RowKit M

theorem str_of {a b : ByteArray} (h : a = b) : Ending.returned (.string a) = .returned (.string b) := by rw [h]
theorem dig_le (n : Nat) (h : n < 1000000000000000000) : (Lib.decDigits n).length ≤ 21 := by
  have := Lib.itoa_length_le (n : Int) (by omega) (by omega)
  rwa [Lib.itoa_nonneg] at this
theorem itoa_le (n : Int) (h : -9000000000000000000 ≤ n) (h2 : n ≤ 9000000000000000000) : (Lib.itoa n).length ≤ 21 := Lib.itoa_length_le n (by omega) (by omega)

theorem register_any (n : Nat) (w : World) (hn : n < 16) :
    Calls Tryd.prog 17 #[.int .i64 n] w fun e w' => e = .returned (.string (txt (regT n))) ∧ w' = w := by
  have c := fun w => Tryd.strconv_Itoa_small n (by omega) w
  have e : txt (regT n) = txt [82] ++ txt (Lib.decDigits n) := by rw [txt_append]; unfold regT; rw [Lib.itoa_nonneg]; rfl
  have hl := dig_le n (by omega)
  rw [← txt_size] at hl
  change ∀ w, Calls _ _ _ w fun e w' => e = .returned (.string (txt (Lib.decDigits n))) ∧ w' = w at c
  obtain ⟨x, hx⟩ : ∃ x, txt (Lib.decDigits n) = x := ⟨_, rfl⟩
  rw [hx] at c hl e
  have HE := Lib.hid e
  clear hx e
  go_enter Tryd.func17, Tryd.ntmps17
  go_wp2_with (go_at_call 18; refine (c _).mono ?_; rintro e w1 ⟨rfl, rfl⟩)
  go_ret
  exact ⟨str_of HE.out.symm, rfl⟩

theorem ba_nil (x : ByteArray) : x ++ ⟨#[]⟩ = x := by apply ByteArray.ext; simp [ByteArray.data_append]

theorem op_any (F : Int) (u v : Bool) (A B C : Int) (o : Nat) (Imm : Int) (w : World) (ho : o < 16) (hs : w.cell? ⟨0, o, none⟩ = some (.string (txt (opTab.getD o [])))) :
    Calls Tryd.prog 20 #[.agg #[.int .i64 F, .bool u, .bool v, .int .i64 A, .int .i64 B, .int .i64 C, .int .i64 o, .int .i32 Imm]] w fun e w' => e = .returned (.string (txt (opT u v o))) ∧ Only Nil w w' := by
  have hz := World.block_lt_of_cell? w _ hs
  have hl : (txt (opTab.getD o [])).size ≤ 10 := by
    rw [txt_size]
    have : ∀ k : Fin 16, (opTab.getD k.val []).length ≤ 10 := by decide
    exact this ⟨o, ho⟩
  have e : txt (opT u v o) = (txt (opTab.getD o []) ++ (if u then txt [39] else txt [])) ++ (if v then txt [35] else txt []) := by
    unfold opT; cases u <;> cases v <;> simp [txt_append]
  obtain ⟨x, hx⟩ : ∃ x, txt (opTab.getD o []) = x := ⟨_, rfl⟩
  rw [hx] at hl hs e
  have HE := Lib.hid e
  clear hx e
  cases u <;> cases v
  all_goals
    go_enter Tryd.func20, Tryd.ntmps20
    go_wp2
    go_ret
    refine ⟨str_of (Eq.trans ?_ HE.out.symm), (Only.refl _ _).alloc _⟩
    simp [txt, ba_nil]

theorem access_any (F : Int) (u v : Bool) (A B C Op Imm : Int) (w : World) :
    Calls Tryd.prog 21 #[.agg #[.int .i64 F, .bool u, .bool v, .int .i64 A, .int .i64 B, .int .i64 C, .int .i64 Op, .int .i32 Imm]] w fun e w' => e = .returned (.string (txt (memT u v))) ∧ Only Nil w w' := by
  have e : txt (memT u v) = (if u then txt [83, 84, 82] else txt [76, 68, 82]) ++ (if v then txt [66] else txt []) := by
    unfold memT; cases u <;> cases v <;> simp [txt_append]
  have HE := Lib.hid e
  clear e
  cases u <;> cases v
  all_goals
    go_enter Tryd.func21, Tryd.ntmps21
    go_wp2
    go_ret
    refine ⟨str_of (Eq.trans ?_ HE.out.symm), (Only.refl _ _).alloc _⟩
    simp [txt, ba_nil]

theorem branch_any (F : Int) (u v : Bool) (a : Nat) (B C Op Imm : Int) (w : World) (ha : a < 16) (hs : w.cell? ⟨1, a, none⟩ = some (.string (txt (cndTab.getD a [])))) :
    Calls Tryd.prog 22 #[.agg #[.int .i64 F, .bool u, .bool v, .int .i64 a, .int .i64 B, .int .i64 C, .int .i64 Op, .int .i32 Imm]] w fun e w' => e = .returned (.string (txt (brT v a))) ∧ Only Nil w w' := by
  have hz := World.block_lt_of_cell? w _ hs
  have hl : (txt (cndTab.getD a [])).size ≤ 10 := by
    rw [txt_size]
    have : ∀ k : Fin 16, (cndTab.getD k.val []).length ≤ 10 := by decide
    exact this ⟨a, ha⟩
  have e : txt (brT v a) = (if v then txt [66] ++ txt [76] else txt [66]) ++ txt (cndTab.getD a []) := by
    unfold brT; cases v <;> simp [txt_append]
  obtain ⟨x, hx⟩ : ∃ x, txt (cndTab.getD a []) = x := ⟨_, rfl⟩
  rw [hx] at hl hs e
  have HE := Lib.hid e
  clear hx e
  cases v
  all_goals
    go_enter Tryd.func22, Tryd.ntmps22
    go_wp2
    go_ret
    refine ⟨str_of (Eq.trans ?_ HE.out.symm), (Only.refl _ _).alloc _⟩
    simp [txt]

theorem only_below {w w' : World} (h : Below w.heap.size w w') : Only Nil w w' := ⟨h.os, h.tape, h.output, h.size, fun k hk _ => h.block k hk⟩

theorem line_any (n : List UInt8) (bk c : Nat) (xs : List (List UInt8)) (w : World) (hn : n.length ≤ 100) (hc : ∀ (j : Nat) x, xs[j]? = some x → w.cell? ⟨bk, j, none⟩ = some (.string (txt x)))
    (hb : bk < w.heap.size) (hx : xs.length ≤ 100) (hcap : xs.length ≤ c) (hl : (Lib.join xs [44, 32]).length ≤ 1000) :
    Calls Tryd.prog 19 #[.string (txt n), .slice (some ⟨bk, 0, none⟩) xs.length c] w fun e w' => e = .returned (.string (txt (lineT n xs))) ∧ Only Nil w w' := by
  have em : (xs.map txt).map (·.data.toList) = xs := by
    rw [List.map_map]; exact (List.map_congr_left (fun l _ => txt_data l)).trans (List.map_id _)
  have c1 := fun (h : True) => Tryd.strings_Join bk 0 c (xs.map txt) (txt [44, 32]) w (by
    intro j x hj
    rw [Nat.zero_add]
    simp only [List.getElem?_map, Option.map_eq_some_iff] at hj
    obtain ⟨y, hy, rfl⟩ := hj
    exact hc j y hy) hb (by simp; omega) (by simpa using hcap) (by rw [em, txt_data]; omega)
  rw [em, txt_data, List.length_map] at c1
  have e : txt (lineT n xs) = txt n ++ txt [32] ++ txt (Lib.join xs [44, 32]) := by unfold lineT; rw [txt_append, txt_append]
  have c2 : Calls Tryd.prog 28 #[.slice (some ⟨bk, 0, none⟩) xs.length c, .string (txt [44, 32])] w fun e w' => e = .returned (.string (txt (Lib.join xs [44, 32]))) ∧ Below w.heap.size w w' := c1 trivial
  have hl2 := txt_size (Lib.join xs [44, 32])
  have hn2 := txt_size n
  obtain ⟨y, hy⟩ : ∃ y, txt (Lib.join xs [44, 32]) = y := ⟨_, rfl⟩
  obtain ⟨z, hz⟩ : ∃ z, txt n = z := ⟨_, rfl⟩
  rw [hy] at c2 hl2
  rw [hz] at hn2
  rw [hy, hz] at e
  have h3 : y.size ≤ 1000 := by omega
  have h4 : z.size ≤ 100 := by omega
  obtain ⟨L, hL⟩ : ∃ L, xs.length = L := ⟨_, rfl⟩
  rw [hL] at c2 ⊢
  rw [hz]
  have HE := Lib.hid e
  clear e hy hz hl2 hn2 c1 em hc hl hn hx hcap hL
  go_enter Tryd.func19, Tryd.ntmps19
  go_wp2_with (go_at_call 28; refine c2.mono ?_; rintro e w1 ⟨rfl, hb1⟩)
  go_ret
  exact ⟨str_of HE.out.symm, only_below hb1⟩
end Go.Proofs.YthimhbfglgnohaaDoor
