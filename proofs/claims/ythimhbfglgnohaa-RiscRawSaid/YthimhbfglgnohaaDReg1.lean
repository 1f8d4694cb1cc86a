/- What the document's machine's 'register' comes to. -/
import Derived.Test.YthimhbfglgnohaaDMem
import Derived.Test.YthimhbfglgnohaaMReckonA
set_option linter.unusedSimpArgs false
set_option linter.unusedVariables false
namespace Go.Proofs.Ythimhbfglgnohaa
open Go.RowKit M
variable {Q : Nat → Prop}

/-- What an instruction that reckons comes to. -/
def DDid (Q : Nat → Prop) (w : World) (mb wb : Nat) (ob : Option Nat) (code : List Nat) (cv iv ov : Value) (e : Ending) (w' : World) (r : Option St) : Prop :=
  match r with
  | some s' => e = .returned (.bool true) ∧ Only (M.One mb) w w' ∧ DAt Q w' mb wb ob code s' cv iv ov
  | none => e = .returned (.bool false) ∧ Only Nil w w'
theorem ddid_some {w w' : World} {mb wb : Nat} {ob : Option Nat} {code : List Nat} {cv iv ov : Value} {e : Ending} {s' : St} (h : e = .returned (.bool true) ∧ Only (M.One mb) w w' ∧ DAt Q w' mb wb ob code s' cv iv ov) : DDid Q w mb wb ob code cv iv ov e w' (some s') := h
theorem ddid_none {w w' : World} {mb wb : Nat} {ob : Option Nat} {code : List Nat} {cv iv ov : Value} {e : Ending} (h : e = .returned (.bool false) ∧ Only Nil w w') : DDid Q w mb wb ob code cv iv ov e w' none := h
end Go.Proofs.Ythimhbfglgnohaa

/- What reckoning comes to, an operation each: mathematics. -/
set_option linter.unusedSimpArgs false
set_option linter.unusedVariables false
namespace Go.Proofs.Ythimhbfglgnohaa
open Go.RowKit M

theorem alu_8 (s : St) (F : Int) (u v : Bool) (a b c : Nat) (m : Int) (B N : Nat) :
    alu s ⟨F, u, v, a, b, c, (8 : Nat), m⟩ B N = some ({ s with c := decide (4294967296 ≤ B + N + cin s ⟨F, u, v, a, b, c, (8 : Nat), m⟩), v := decide (S B + S N + cin s ⟨F, u, v, a, b, c, (8 : Nat), m⟩ ≠ wrap32 (S B + S N + cin s ⟨F, u, v, a, b, c, (8 : Nat), m⟩)) }, (B + N + cin s ⟨F, u, v, a, b, c, (8 : Nat), m⟩) % 4294967296) := by
  unfold alu
  rw [if_neg (by simp), if_neg (by simp), if_neg (by simp), if_neg (by simp), if_neg (by simp), if_neg (by simp), if_neg (by simp), if_neg (by simp), if_pos (by simp)]
theorem alu_9 (s : St) (F : Int) (u v : Bool) (a b c : Nat) (m : Int) (B N : Nat) :
    alu s ⟨F, u, v, a, b, c, (9 : Nat), m⟩ B N = some ({ s with c := decide (B < N + cin s ⟨F, u, v, a, b, c, (9 : Nat), m⟩), v := decide (S B - S N - cin s ⟨F, u, v, a, b, c, (9 : Nat), m⟩ ≠ wrap32 (S B - S N - cin s ⟨F, u, v, a, b, c, (9 : Nat), m⟩)) }, U (B - N - cin s ⟨F, u, v, a, b, c, (9 : Nat), m⟩ : Int)) := by
  unfold alu
  rw [if_neg (by simp), if_neg (by simp), if_neg (by simp), if_neg (by simp), if_neg (by simp), if_neg (by simp), if_neg (by simp), if_neg (by simp), if_neg (by simp), if_pos (by simp)]
theorem alu_10 (s : St) (F : Int) (u v : Bool) (a b c : Nat) (m : Int) (B N : Nat) :
    alu s ⟨F, u, v, a, b, c, (10 : Nat), m⟩ B N = some ({ s with H := if u then B * N / 4294967296 else U (S B * S N / 4294967296) }, if u then B * N % 4294967296 else U (S B * S N)) := by
  unfold alu
  rw [if_neg (by simp), if_neg (by simp), if_neg (by simp), if_neg (by simp), if_neg (by simp), if_neg (by simp), if_neg (by simp), if_neg (by simp), if_neg (by simp), if_neg (by simp), if_pos (by simp)]
theorem alu_11 (s : St) (F : Int) (u v : Bool) (a b c : Nat) (m : Int) (B N : Nat) :
    alu s ⟨F, u, v, a, b, c, (11 : Nat), m⟩ B N = if S N < 1 then none else some ({ s with H := U (S B % S N) }, U (S B / S N)) := by
  unfold alu
  rw [if_neg (by simp), if_neg (by simp), if_neg (by simp), if_neg (by simp), if_neg (by simp), if_neg (by simp), if_neg (by simp), if_neg (by simp), if_neg (by simp), if_neg (by simp), if_neg (by simp), if_pos (by simp)]

section
variable {s : St} {F : Int} {u v : Bool} {a b c : Nat} {m : Int} {B N k : Nat}
theorem reckon_alu {o : Nat} (hN : opnd s ⟨F, u, v, a, b, c, o, m⟩ = N) (hB : s.R b = B) : reckon s ⟨F, u, v, a, b, c, o, m⟩ = (alu s ⟨F, u, v, a, b, c, o, m⟩ B N).map fun x => setR x.1 a x.2 := by
  unfold reckon
  simp only [Int.toNat_natCast, hN, hB]
theorem reckon_8 (hN : opnd s ⟨F, u, v, a, b, c, (8 : Nat), m⟩ = N) (hB : s.R b = B) (hk : (if u && s.c then 1 else 0 : Nat) = k) {X Y : Int} (hX : S B = X) (hY : S N = Y) {rr : Nat} (hr : (B + N + k) % 4294967296 = rr) :
    reckon s ⟨F, u, v, a, b, c, (8 : Nat), m⟩ = some (setR { s with c := decide (4294967296 ≤ B + N + k), v := decide (X + Y + k ≠ wrap32 (X + Y + k)) } a rr) := by
  have hc : cin s ⟨F, u, v, a, b, c, (8 : Nat), m⟩ = k := hk
  rw [reckon_alu hN hB, alu_8, hc, hX, hY, hr]
  rfl
theorem reckon_9 (hN : opnd s ⟨F, u, v, a, b, c, (9 : Nat), m⟩ = N) (hB : s.R b = B) (hk : (if u && s.c then 1 else 0 : Nat) = k) {X Y : Int} (hX : S B = X) (hY : S N = Y) {rr : Nat} (hr : U ((B : Int) - N - k) = rr) :
    reckon s ⟨F, u, v, a, b, c, (9 : Nat), m⟩ = some (setR { s with c := decide (B < N + k), v := decide (X - Y - k ≠ wrap32 (X - Y - k)) } a rr) := by
  have hc : cin s ⟨F, u, v, a, b, c, (9 : Nat), m⟩ = k := hk
  rw [reckon_alu hN hB, alu_9, hc, hX, hY, hr]
  rfl
theorem reckon_10u (hN : opnd s ⟨F, true, v, a, b, c, (10 : Nat), m⟩ = N) (hB : s.R b = B) {p rr : Nat} (hp : B * N = p) (hr : p % 4294967296 = rr) :
    reckon s ⟨F, true, v, a, b, c, (10 : Nat), m⟩ = some (setR { s with H := p / 4294967296 } a rr) := by
  rw [reckon_alu hN hB, alu_10, if_pos rfl, if_pos rfl, hp, hr]
  rfl
theorem reckon_10s (hN : opnd s ⟨F, false, v, a, b, c, (10 : Nat), m⟩ = N) (hB : s.R b = B) {X Y q : Int} {rr : Nat} (hX : S B = X) (hY : S N = Y) (hq : X * Y = q) (hr : U q = rr) :
    reckon s ⟨F, false, v, a, b, c, (10 : Nat), m⟩ = some (setR { s with H := U (q / 4294967296) } a rr) := by
  rw [reckon_alu hN hB, alu_10, if_neg (by decide), if_neg (by decide), hX, hY, hq, hr]
  rfl
theorem reckon_11n (hN : opnd s ⟨F, u, v, a, b, c, (11 : Nat), m⟩ = N) (hB : s.R b = B) {Y : Int} (hY : S N = Y) (hd : Y < 1) :
    reckon s ⟨F, u, v, a, b, c, (11 : Nat), m⟩ = none := by
  rw [reckon_alu hN hB, alu_11, hY, if_pos hd]
  rfl
theorem reckon_11 (hN : opnd s ⟨F, u, v, a, b, c, (11 : Nat), m⟩ = N) (hB : s.R b = B) {X Y q r : Int} {rr : Nat} (hX : S B = X) (hY : S N = Y) (hd : ¬ Y < 1) (hq : X / Y = q) (hr : X % Y = r) (hr' : U q = rr) :
    reckon s ⟨F, u, v, a, b, c, (11 : Nat), m⟩ = some (setR { s with H := U r } a rr) := by
  rw [reckon_alu hN hB, alu_11, hX, hY, if_neg hd, hq, hr, hr']
  rfl
end

theorem w32_range (x : Int) : -2147483648 ≤ wrap32 x ∧ wrap32 x ≤ 2147483647 := by unfold wrap32; omega
theorem w64_in (x : Int) (h : -2147483648 ≤ x ∧ x ≤ 2147483647) : wrap64 x = x := by unfold wrap64; omega
theorem w64_32 (x : Int) : wrap64 (wrap32 x) = wrap32 x := w64_in _ (w32_range x)
theorem ne_dec (x y : Int) : (x != y) = decide (x ≠ y) := by rw [Bool.eq_iff_iff, bne_iff_ne, decide_eq_true_iff]
theorem ne_w (x : Int) : (x != wrap64 (wrap32 x)) = decide (x ≠ wrap32 x) := by rw [w64_32, ne_dec]
theorem sum_cast {B N k rr : Nat} (h : (B + N + k) % 4294967296 = rr) : ((B : Int) + N + k) % 4294967296 = (rr : Int) := by omega
theorem sum_carry (B N k : Nat) : (((B : Int) + N + k) / 4294967296 != 0) = decide (4294967296 ≤ B + N + k) := by rw [Bool.eq_iff_iff, bne_iff_ne, decide_eq_true_iff]; omega
theorem U_cast (x : Int) : ((U x : Nat) : Int) = x % 4294967296 := by unfold U; omega
theorem dif_cast {B N k rr : Nat} (h : U ((B : Int) - N - k) = rr) : ((B : Int) - N - k) % 4294967296 = (rr : Int) := by rw [← h, U_cast]
theorem dif_cast2 {B N k rr : Nat} (h : U ((B : Int) - N - k) = rr) : (((B : Int) - N) % 4294967296 - k) % 4294967296 = (rr : Int) := by rw [← h, U_cast]; omega
theorem k_cast {k : Nat} (h : k ≤ 1) : (k : Int) % 4294967296 = (k : Int) := by omega
theorem dif_carry (B N k : Nat) : decide ((B : Int) < (N : Int) + k) = decide (B < N + k) := by rw [decide_eq_decide]; omega
theorem low_cast {p rr : Nat} (h : p % 4294967296 = rr) : (p : Int) % 4294967296 = (rr : Int) := by omega
theorem high_cast {p : Nat} (h : p < 18446744073709551616) : (p : Int) / 4294967296 % 4294967296 = ((p / 4294967296 : Nat) : Int) := by omega
theorem high_cast2 (p : Nat) : (p : Int) / 4294967296 = ((p / 4294967296 : Nat) : Int) := by omega
theorem low_s {q : Int} {rr : Nat} (h : U q = rr) : IntKind.u64.wrap q % 4294967296 = (rr : Int) := by rw [← h, IntKind.wrap_u64, U_cast]; omega
theorem high_s (q : Int) : IntKind.u64.wrap q / 4294967296 % 4294967296 = ((U (q / 4294967296) : Nat) : Int) := by rw [IntKind.wrap_u64, U_cast]; omega
end Go.Proofs.Ythimhbfglgnohaa

