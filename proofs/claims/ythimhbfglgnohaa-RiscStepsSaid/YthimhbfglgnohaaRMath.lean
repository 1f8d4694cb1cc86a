/- RISC5's instructions as plain mathematics: an instruction, its word, the word's instruction. No Go program is imported. -/
import Derived.WalkKit
import Derived.WalkSpells
import Derived.WalkLawsBesides
set_option linter.unusedSimpArgs false
set_option linter.unusedVariables false
namespace Go.Proofs.Ythimhbfglgnohaa.M
open Go.RowKit

/-- An instruction. -/
structure Ins where
  F : Int
  U : Bool
  V : Bool
  A : Int
  B : Int
  C : Int
  Op : Int
  Imm : Int
deriving DecidableEq

theorem Ins.ext' {i j : Ins} (h1 : i.F = j.F) (h2 : i.U = j.U) (h3 : i.V = j.V) (h4 : i.A = j.A) (h5 : i.B = j.B) (h6 : i.C = j.C) (h7 : i.Op = j.Op) (h8 : i.Imm = j.Imm) : i = j := by
  cases i; cases j; simp_all

def Ins.cells (i : Ins) : Array Value := #[.int .i64 i.F, .bool i.U, .bool i.V, .int .i64 i.A, .int .i64 i.B, .int .i64 i.C, .int .i64 i.Op, .int .i32 i.Imm]
def Ins.val (i : Ins) : Value := .agg i.cells
def Ins.zero : Ins := ⟨0, false, false, 0, 0, 0, 0, 0⟩

/-- The lowest 20, 24 bits, the highest of them negative. -/
def sx20 (w : Nat) : Int := if w % 1048576 < 524288 then ((w % 1048576 : Nat) : Int) else ((w % 1048576 : Nat) : Int) - 1048576
def sx24 (w : Nat) : Int := if w % 16777216 < 8388608 then ((w % 16777216 : Nat) : Int) else ((w % 16777216 : Nat) : Int) - 16777216

def bit (w k : Nat) : Bool := w / 2 ^ k % 2 == 1

/-- A word's instruction, where the noughts are noughts. -/
def dec (w : Nat) : Ins :=
  if w / 1073741824 = 0 then ⟨0, bit w 29, bit w 28, (w / 16777216 % 16 : Nat), (w / 1048576 % 16 : Nat), (w % 16 : Nat), (w / 65536 % 16 : Nat), 0⟩
  else if w / 1073741824 = 1 then ⟨1, bit w 29, bit w 28, (w / 16777216 % 16 : Nat), (w / 1048576 % 16 : Nat), 0, (w / 65536 % 16 : Nat), (w % 65536 : Nat)⟩
  else if w / 1073741824 = 2 then ⟨2, bit w 29, bit w 28, (w / 16777216 % 16 : Nat), (w / 1048576 % 16 : Nat), 0, 0, sx20 w⟩
  else if bit w 29 then ⟨3, true, bit w 28, (w / 16777216 % 16 : Nat), 0, 0, 0, sx24 w⟩
  else ⟨3, false, bit w 28, (w / 16777216 % 16 : Nat), 0, (w % 16 : Nat), 0, (w / 16 % 16 : Nat)⟩
/-- Whether they are. -/
def isOk (w : Nat) : Bool :=
  if w / 1073741824 = 0 then w / 16 % 4096 == 0
  else if w / 1073741824 = 1 then true
  else if w / 1073741824 = 2 then true
  else if bit w 29 then true
  else w / 256 % 65536 == 0
/-- What Decode tells first. -/
def decI (w : Nat) : Ins := if isOk w then dec w else Ins.zero

def b2 (b : Bool) : Nat := if b then 1 else 0

/-- Whether there is such an instruction. -/
def Ins.Good (i : Ins) : Prop :=
  0 ≤ i.F ∧ i.F ≤ 3 ∧ 0 ≤ i.A ∧ i.A ≤ 15 ∧
  (i.F = 0 ∧ 0 ≤ i.B ∧ i.B ≤ 15 ∧ 0 ≤ i.Op ∧ i.Op ≤ 15 ∧ 0 ≤ i.C ∧ i.C ≤ 15 ∧ i.Imm = 0 ∨
   i.F = 1 ∧ 0 ≤ i.B ∧ i.B ≤ 15 ∧ 0 ≤ i.Op ∧ i.Op ≤ 15 ∧ i.C = 0 ∧ 0 ≤ i.Imm ∧ i.Imm ≤ 65535 ∨
   i.F = 2 ∧ 0 ≤ i.B ∧ i.B ≤ 15 ∧ i.Op = 0 ∧ i.C = 0 ∧ -524288 ≤ i.Imm ∧ i.Imm ≤ 524287 ∨
   i.F = 3 ∧ i.U = false ∧ i.B = 0 ∧ i.Op = 0 ∧ 0 ≤ i.C ∧ i.C ≤ 15 ∧ 0 ≤ i.Imm ∧ i.Imm ≤ 15 ∨
   i.F = 3 ∧ i.U = true ∧ i.B = 0 ∧ i.Op = 0 ∧ i.C = 0 ∧ -8388608 ≤ i.Imm ∧ i.Imm ≤ 8388607)

theorem b2_le (b : Bool) : b2 b ≤ 1 := by cases b <;> decide
theorem bit_b2 (w k : Nat) (b : Bool) (h : w / 2 ^ k % 2 = b2 b) : bit w k = b := by
  unfold bit; rw [h]; cases b <;> rfl
theorem b2_bit (w k : Nat) : b2 (bit w k) = w / 2 ^ k % 2 := by
  unfold bit b2; rcases Nat.mod_two_eq_zero_or_one (w / 2 ^ k) with h | h <;> rw [h] <;> decide

/-- A word's parts, out of what it is put together of. -/
theorem parts (f u v a r W : Nat) (hu : u ≤ 1) (hv : v ≤ 1) (ha : a < 16) (hr : r < 16777216) (hW : W = f * 1073741824 + u * 536870912 + v * 268435456 + a * 16777216 + r) :
    W / 1073741824 = f ∧ W / 2 ^ 29 % 2 = u ∧ W / 2 ^ 28 % 2 = v ∧ W / 16777216 % 16 = a ∧ W % 16777216 = r := by
  have e1 : (2 : Nat) ^ 29 = 536870912 := by decide
  have e2 : (2 : Nat) ^ 28 = 268435456 := by decide
  rw [e1, e2]
  have h1 : W / 1073741824 = f := by omega
  have h2 : W / 16777216 = f * 64 + u * 32 + v * 16 + a := by omega
  have h3 : W / 536870912 = W / 16777216 / 32 := by rw [Nat.div_div_eq_div_mul]
  have h4 : W / 268435456 = W / 16777216 / 16 := by rw [Nat.div_div_eq_div_mul]
  refine ⟨h1, ?_, ?_, ?_, ?_⟩
  · rw [h3, h2]; clear h1 h2 h3 h4 hW; omega
  · rw [h4, h2]; clear h1 h2 h3 h4 hW; omega
  · rw [h2]; clear h1 h2 h3 h4 hW; omega
  · omega
/-- The rest's parts. -/
theorem rests (W : Nat) : W / 1048576 % 16 = W % 16777216 / 1048576 ∧ W / 65536 % 16 = W % 16777216 / 65536 % 16 ∧ W % 65536 = W % 16777216 % 65536 ∧ W % 1048576 = W % 16777216 % 1048576 ∧
    W % 16 = W % 16777216 % 16 ∧ W / 16 % 16 = W % 16777216 / 16 % 16 ∧ W / 16 % 4096 = W % 16777216 / 16 % 4096 ∧ W / 256 % 65536 = W % 16777216 / 256 := by
  refine ⟨?_, ?_, ?_, ?_, ?_, ?_, ?_, ?_⟩ <;> omega

/-- A word by its parts. -/
def put (f : Nat) (u v : Bool) (a r : Nat) : Nat := f * 1073741824 + b2 u * 536870912 + b2 v * 268435456 + a * 16777216 + r
theorem put_parts (f : Nat) (u v : Bool) (a r : Nat) (ha : a < 16) (hr : r < 16777216) :
    put f u v a r / 1073741824 = f ∧ bit (put f u v a r) 29 = u ∧ bit (put f u v a r) 28 = v ∧ put f u v a r / 16777216 % 16 = a ∧ put f u v a r % 16777216 = r := by
  obtain ⟨h1, h2, h3, h4, h5⟩ := parts f (b2 u) (b2 v) a r _ (b2_le u) (b2_le v) ha hr (rfl : put f u v a r = _)
  exact ⟨h1, bit_b2 _ _ _ h2, bit_b2 _ _ _ h3, h4, h5⟩
theorem put_lt (f : Nat) (u v : Bool) (a r : Nat) (hf : f ≤ 3) (ha : a < 16) (hr : r < 16777216) : put f u v a r < 4294967296 := by
  have := b2_le u
  have := b2_le v
  unfold put; omega
theorem put_back (w : Nat) : put (w / 1073741824) (bit w 29) (bit w 28) (w / 16777216 % 16) (w % 16777216) = w := by
  unfold put
  rw [b2_bit, b2_bit]
  have e1 : (2 : Nat) ^ 29 = 536870912 := by decide
  have e2 : (2 : Nat) ^ 28 = 268435456 := by decide
  rw [e1, e2]
  have h1 : w / 1073741824 = w / 16777216 / 64 := by rw [Nat.div_div_eq_div_mul]
  have h3 : w / 536870912 = w / 16777216 / 32 := by rw [Nat.div_div_eq_div_mul]
  have h4 : w / 268435456 = w / 16777216 / 16 := by rw [Nat.div_div_eq_div_mul]
  rw [h1, h3, h4]
  have h5 := Nat.div_add_mod w 16777216
  obtain ⟨x, hx⟩ : ∃ x, w / 16777216 = x := ⟨_, rfl⟩
  obtain ⟨y, hy⟩ : ∃ y, w % 16777216 = y := ⟨_, rfl⟩
  rw [hx, hy] at h5
  rw [hx, hy]
  have h6 : x / 64 * 64 + x / 32 % 2 * 32 + x / 16 % 2 * 16 + x % 16 = x := by clear h5 hx hy h1 h3 h4; omega
  omega

/-- The part of a word that hangs on its format. -/
def tail (i : Ins) : Nat :=
  if i.F = 0 then i.B.toNat * 1048576 + i.Op.toNat * 65536 + i.C.toNat
  else if i.F = 1 then i.B.toNat * 1048576 + i.Op.toNat * 65536 + i.Imm.toNat
  else if i.F = 2 then i.B.toNat * 1048576 + (i.Imm % 1048576).toNat
  else if i.U then (i.Imm % 16777216).toNat
  else i.Imm.toNat * 16 + i.C.toNat
/-- An instruction's word. -/
def enc (i : Ins) : Nat := put i.F.toNat i.U i.V i.A.toNat (tail i)

theorem tail_lt (i : Ins) (h : i.Good) : tail i < 16777216 := by
  obtain ⟨_, _, _, _, h5⟩ := h
  rcases h5 with ⟨hf, h5⟩ | ⟨hf, h5⟩ | ⟨hf, h5⟩ | ⟨hf, hU, h5⟩ | ⟨hf, hU, h5⟩
  · unfold tail; rw [if_pos hf]; omega
  · unfold tail; rw [if_neg (by omega), if_pos hf]; omega
  · unfold tail; rw [if_neg (by omega), if_neg (by omega), if_pos hf]; omega
  · unfold tail; rw [if_neg (by omega), if_neg (by omega), if_neg (by omega), if_neg (by simp [hU])]; omega
  · unfold tail; rw [if_neg (by omega), if_neg (by omega), if_neg (by omega), if_pos hU]; omega
theorem enc_lt (i : Ins) (h : i.Good) : enc i < 4294967296 := by
  have h6 := tail_lt i h
  obtain ⟨h1, h2, h3, h4, _⟩ := h
  exact put_lt _ _ _ _ _ (by omega) (by omega) h6

theorem put_congr {f f' : Nat} {u v : Bool} {a a' r r' : Nat} (h1 : f = f') (h2 : a = a') (h3 : r = r') : put f u v a r = put f' u v a' r' := by rw [h1, h2, h3]
theorem sx20_of {w r : Nat} {m : Int} (h : w % 1048576 = r) (hm : m = (r : Int) ∧ r < 524288 ∨ m = (r : Int) - 1048576 ∧ 524288 ≤ r) : sx20 w = m := by
  unfold sx20; rw [h]; split <;> omega
theorem sx24_of {w r : Nat} {m : Int} (h : w % 16777216 = r) (hm : m = (r : Int) ∧ r < 8388608 ∨ m = (r : Int) - 16777216 ∧ 8388608 ≤ r) : sx24 w = m := by
  unfold sx24; rw [h]; split <;> omega
theorem sx20_in (w : Nat) : sx20 w = ((w % 1048576 : Nat) : Int) ∧ w % 1048576 < 524288 ∨ sx20 w = ((w % 1048576 : Nat) : Int) - 1048576 ∧ 524288 ≤ w % 1048576 := by
  unfold sx20; split <;> omega
theorem sx24_in (w : Nat) : sx24 w = ((w % 16777216 : Nat) : Int) ∧ w % 16777216 < 8388608 ∨ sx24 w = ((w % 16777216 : Nat) : Int) - 16777216 ∧ 8388608 ≤ w % 16777216 := by
  unfold sx24; split <;> omega

theorem dec_0 {w : Nat} (h : w / 1073741824 = 0) : dec w = ⟨0, bit w 29, bit w 28, (w / 16777216 % 16 : Nat), (w / 1048576 % 16 : Nat), (w % 16 : Nat), (w / 65536 % 16 : Nat), 0⟩ ∧ isOk w = (w / 16 % 4096 == 0) := by
  unfold dec isOk; rw [if_pos h, if_pos h]; exact ⟨rfl, rfl⟩
theorem dec_1 {w : Nat} (h : w / 1073741824 = 1) : dec w = ⟨1, bit w 29, bit w 28, (w / 16777216 % 16 : Nat), (w / 1048576 % 16 : Nat), 0, (w / 65536 % 16 : Nat), (w % 65536 : Nat)⟩ ∧ isOk w = true := by
  unfold dec isOk; rw [if_neg (by omega), if_pos h, if_neg (by omega), if_pos h]; exact ⟨rfl, rfl⟩
theorem dec_2 {w : Nat} (h : w / 1073741824 = 2) : dec w = ⟨2, bit w 29, bit w 28, (w / 16777216 % 16 : Nat), (w / 1048576 % 16 : Nat), 0, 0, sx20 w⟩ ∧ isOk w = true := by
  unfold dec isOk; rw [if_neg (by omega), if_neg (by omega), if_pos h, if_neg (by omega), if_neg (by omega), if_pos h]; exact ⟨rfl, rfl⟩
theorem dec_3 {w : Nat} (h : 3 ≤ w / 1073741824) (hu : bit w 29 = true) : dec w = ⟨3, true, bit w 28, (w / 16777216 % 16 : Nat), 0, 0, 0, sx24 w⟩ ∧ isOk w = true := by
  unfold dec isOk; rw [if_neg (by omega), if_neg (by omega), if_neg (by omega), if_pos hu, if_neg (by omega), if_neg (by omega), if_neg (by omega), if_pos hu]; exact ⟨rfl, rfl⟩
theorem dec_4 {w : Nat} (h : 3 ≤ w / 1073741824) (hu : bit w 29 = false) : dec w = ⟨3, false, bit w 28, (w / 16777216 % 16 : Nat), 0, (w % 16 : Nat), 0, (w / 16 % 16 : Nat)⟩ ∧ isOk w = (w / 256 % 65536 == 0) := by
  unfold dec isOk; rw [if_neg (by omega), if_neg (by omega), if_neg (by omega), if_neg (by simp [hu]), if_neg (by omega), if_neg (by omega), if_neg (by omega), if_neg (by simp [hu])]; exact ⟨rfl, rfl⟩

theorem tail_0 {i : Ins} (h : i.F = 0) : tail i = i.B.toNat * 1048576 + i.Op.toNat * 65536 + i.C.toNat := by unfold tail; rw [if_pos h]
theorem tail_1 {i : Ins} (h : i.F = 1) : tail i = i.B.toNat * 1048576 + i.Op.toNat * 65536 + i.Imm.toNat := by unfold tail; rw [if_neg (by omega), if_pos h]
theorem tail_2 {i : Ins} (h : i.F = 2) : tail i = i.B.toNat * 1048576 + (i.Imm % 1048576).toNat := by unfold tail; rw [if_neg (by omega), if_neg (by omega), if_pos h]
theorem tail_3 {i : Ins} (h : i.F = 3) (hU : i.U = true) : tail i = (i.Imm % 16777216).toNat := by unfold tail; rw [if_neg (by omega), if_neg (by omega), if_neg (by omega), if_pos hU]
theorem tail_4 {i : Ins} (h : i.F = 3) (hU : i.U = false) : tail i = i.Imm.toNat * 16 + i.C.toNat := by unfold tail; rw [if_neg (by omega), if_neg (by omega), if_neg (by omega), if_neg (by simp [hU])]

set_option maxHeartbeats 800000 in
theorem dec_enc (i : Ins) (h : i.Good) : dec (enc i) = i ∧ isOk (enc i) = true := by
  have h6 := tail_lt i h
  obtain ⟨h1, h2, h3, h4, h5⟩ := h
  obtain ⟨p1, p2, p3, p4, p5⟩ := put_parts i.F.toNat i.U i.V i.A.toNat (tail i) (by omega) h6
  obtain ⟨q1, q2, q3, q4, q5, q6, q7, q8⟩ := rests (put i.F.toNat i.U i.V i.A.toNat (tail i))
  rw [p5] at q1 q2 q3 q4 q5 q6 q7 q8
  have HE : enc i = put i.F.toNat i.U i.V i.A.toNat (tail i) := rfl
  rw [← HE] at p1 p2 p3 p4 p5 q1 q2 q3 q4 q5 q6 q7 q8
  obtain ⟨w, hw⟩ : ∃ w, enc i = w := ⟨_, rfl⟩
  rw [hw] at p1 p2 p3 p4 p5 q1 q2 q3 q4 q5 q6 q7 q8
  rw [hw]
  clear HE hw
  rcases h5 with ⟨hf, h5⟩ | ⟨hf, h5⟩ | ⟨hf, h5⟩ | ⟨hf, hU, h5⟩ | ⟨hf, hU, h5⟩
  · rw [tail_0 hf] at q1 q2 q3 q4 q5 q6 q7 q8 h6
    obtain ⟨d1, d2⟩ := dec_0 (w := w) (by omega)
    rw [d1, d2, p2, p3, p4, q1, q2, q5, q7]
    clear p1 p2 p3 p4 p5 q1 q2 q3 q4 q5 q6 q7 q8 d1 d2
    refine ⟨Ins.ext' hf.symm rfl rfl ?_ ?_ ?_ ?_ ?_, ?_⟩
    all_goals first | (simp only; omega) | (rw [beq_iff_eq]; omega)
  · rw [tail_1 hf] at q1 q2 q3 q4 q5 q6 q7 q8 h6
    obtain ⟨d1, d2⟩ := dec_1 (w := w) (by omega)
    rw [d1, d2, p2, p3, p4, q1, q2, q3]
    clear p1 p2 p3 p4 p5 q1 q2 q3 q4 q5 q6 q7 q8 d1 d2
    refine ⟨Ins.ext' hf.symm rfl rfl ?_ ?_ ?_ ?_ ?_, rfl⟩
    all_goals (simp only; omega)
  · rw [tail_2 hf] at q1 q2 q3 q4 q5 q6 q7 q8 h6
    obtain ⟨d1, d2⟩ := dec_2 (w := w) (by omega)
    rw [d1, d2, p2, p3, p4, q1, sx20_of (m := i.Imm) q4 (by clear p1 p2 p3 p4 p5 q1 q2 q3 q4 q5 q6 q7 q8 d1 d2; omega)]
    clear p1 p2 p3 p4 p5 q1 q2 q3 q4 q5 q6 q7 q8 d1 d2
    refine ⟨Ins.ext' hf.symm rfl rfl ?_ ?_ ?_ ?_ rfl, rfl⟩
    all_goals (simp only; omega)
  · rw [tail_4 hf hU] at q1 q2 q3 q4 q5 q6 q7 q8 h6
    obtain ⟨d1, d2⟩ := dec_4 (w := w) (by omega) (by rw [p2, hU])
    rw [d1, d2, p3, p4, q5, q6, q8]
    clear p1 p2 p3 p4 p5 q1 q2 q3 q4 q5 q6 q7 q8 d1 d2
    refine ⟨Ins.ext' hf.symm hU.symm rfl ?_ ?_ ?_ ?_ ?_, ?_⟩
    all_goals first | (simp only; omega) | (rw [beq_iff_eq]; omega)
  · rw [tail_3 hf hU] at p5 h6
    obtain ⟨d1, d2⟩ := dec_3 (w := w) (by omega) (by rw [p2, hU])
    rw [d1, d2, p3, p4, sx24_of (m := i.Imm) p5 (by clear p1 p2 p3 p4 p5 q1 q2 q3 q4 q5 q6 q7 q8 d1 d2; omega)]
    clear p1 p2 p3 p4 p5 q1 q2 q3 q4 q5 q6 q7 q8 d1 d2
    refine ⟨Ins.ext' hf.symm hU.symm rfl ?_ ?_ ?_ ?_ rfl, rfl⟩
    all_goals (simp only; omega)

set_option maxHeartbeats 800000 in
theorem dec_good (w : Nat) (hw : w < 4294967296) (h : isOk w = true) : (dec w).Good ∧ enc (dec w) = w := by
  have hb := put_back w
  obtain ⟨q1, q2, q3, q4, q5, q6, q7, q8⟩ := rests w
  have hA : w / 16777216 % 16 ≤ 15 := by omega
  have hF : w / 1073741824 ≤ 3 := by omega
  have hr : w % 16777216 < 16777216 := by omega
  have hs := sx20_in w
  have ht := sx24_in w
  rw [q4] at hs
  obtain ⟨f, hf⟩ : ∃ f, w / 1073741824 = f := ⟨_, rfl⟩
  obtain ⟨u, hu⟩ : ∃ u, bit w 29 = u := ⟨_, rfl⟩
  obtain ⟨v, hv⟩ : ∃ v, bit w 28 = v := ⟨_, rfl⟩
  obtain ⟨a, ha⟩ : ∃ a, w / 16777216 % 16 = a := ⟨_, rfl⟩
  obtain ⟨r, hr'⟩ : ∃ r, w % 16777216 = r := ⟨_, rfl⟩
  obtain ⟨s, hs'⟩ : ∃ s, sx20 w = s := ⟨_, rfl⟩
  obtain ⟨t, ht'⟩ : ∃ t, sx24 w = t := ⟨_, rfl⟩
  rw [hf] at hF
  rw [ha] at hA
  rw [hr'] at hr hs ht q1 q2 q3 q4 q5 q6 q7 q8
  rw [hs'] at hs
  rw [ht'] at ht
  rw [hf, hu, hv, ha, hr'] at hb
  have hb' : ∀ x, x = put f u v a r → x = w := fun x hx => hx.trans hb
  clear hb
  by_cases c0 : f = 0
  · obtain ⟨d1, d2⟩ := dec_0 (w := w) (by omega)
    rw [d2, q7, beq_iff_eq] at h
    rw [d1, hu, hv, ha, q1, q2, q5]
    clear d1 d2 q1 q2 q3 q4 q5 q6 q7 q8 hu hv ha hr' hs' ht' hs ht hw hf
    subst c0
    refine ⟨⟨by simp only; omega, by simp only; omega, by simp only; omega, by simp only; omega, Or.inl ⟨rfl, ?_⟩⟩, hb' _ (put_congr ?_ ?_ ?_)⟩
    · simp only [and_true, true_and]; omega
    · rfl
    · rfl
    · rw [tail_0 rfl]; simp only; omega
  by_cases c1 : f = 1
  · obtain ⟨d1, d2⟩ := dec_1 (w := w) (by omega)
    rw [d1, hu, hv, ha, q1, q2, q3]
    clear d1 d2 q1 q2 q3 q4 q5 q6 q7 q8 hu hv ha hr' hs' ht' hs ht hw hf h
    subst c1
    refine ⟨⟨by simp only; omega, by simp only; omega, by simp only; omega, by simp only; omega, Or.inr (Or.inl ⟨rfl, ?_⟩)⟩, hb' _ (put_congr ?_ ?_ ?_)⟩
    · simp only [and_true, true_and]; omega
    · rfl
    · rfl
    · rw [tail_1 rfl]; simp only; omega
  by_cases c2 : f = 2
  · obtain ⟨d1, d2⟩ := dec_2 (w := w) (by omega)
    rw [d1, hu, hv, ha, q1, hs']
    clear d1 d2 q1 q2 q3 q4 q5 q6 q7 q8 hu hv ha hr' hs' ht' ht hw hf h
    subst c2
    refine ⟨⟨by simp only; omega, by simp only; omega, by simp only; omega, by simp only; omega, Or.inr (Or.inr (Or.inl ⟨rfl, ?_⟩))⟩, hb' _ (put_congr ?_ ?_ ?_)⟩
    · simp only [and_true, true_and]; omega
    · rfl
    · rfl
    · rw [tail_2 rfl]; simp only; omega
  have c3 : f = 3 := by omega
  cases u
  · obtain ⟨d1, d2⟩ := dec_4 (w := w) (by omega) hu
    rw [d2, q8, beq_iff_eq] at h
    rw [d1, hv, ha, q5, q6]
    clear d1 d2 q1 q2 q3 q4 q5 q6 q7 q8 hu hv ha hr' hs' ht' hs ht hw hf
    subst c3
    refine ⟨⟨by simp only; omega, by simp only; omega, by simp only; omega, by simp only; omega, Or.inr (Or.inr (Or.inr (Or.inl ⟨rfl, rfl, ?_⟩)))⟩, hb' _ (put_congr ?_ ?_ ?_)⟩
    · simp only [and_true, true_and]; omega
    · rfl
    · rfl
    · rw [tail_4 rfl rfl]; simp only; omega
  · obtain ⟨d1, d2⟩ := dec_3 (w := w) (by omega) hu
    rw [d1, hv, ha, ht']
    clear d1 d2 q1 q2 q3 q4 q5 q6 q7 q8 hu hv ha hr' hs' ht' hs hw hf h
    subst c3
    refine ⟨⟨by simp only; omega, by simp only; omega, by simp only; omega, by simp only; omega, Or.inr (Or.inr (Or.inr (Or.inr ⟨rfl, rfl, ?_⟩)))⟩, hb' _ (put_congr ?_ ?_ ?_)⟩
    · simp only [and_true, true_and]; omega
    · rfl
    · rfl
    · rw [tail_3 rfl rfl]; simp only; omega
end Go.Proofs.Ythimhbfglgnohaa.M
