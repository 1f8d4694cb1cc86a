/- The model's operations on bits that varint and waferref1 use, on casts of Nats: no Go program is imported. -/
import Derived.Test.YtpnhjjihdcopnaaNum
import Derived.Test.YtpnhjjihdcopnaaVMath
import Derived.Laws.BitsAllLaws
import Derived.Laws.DeepNot64
import Derived.Test.YtpnhjjihdcopnaaProg
import Derived.Laws.BytesArg
import Derived.Lib.Hide
import Derived.Deep.LoopGhost
import Derived.Deep.DeepCutAuto
set_option linter.unusedSimpArgs false
set_option linter.unusedVariables false
namespace Go.Proofs.Ytpnhjjihdcopnaa.M
open Go.RowKit

theorem not_neg (v : Int) (h1 : -9223372036854775808 ≤ v) (h2 : v < 0) : bits .xor .i64 (-1) v = -(v + 1) := by
  show IntKind.i64.wrap ((BitVec.ofInt 64 (-1) ^^^ BitVec.ofInt 64 v).toNat : Int) = _
  have e : BitVec.ofInt 64 (-1) = BitVec.allOnes 64 := by decide
  rw [e, BitVec.allOnes_xor, BitVec.toNat_not, BitVec.toNat_ofInt]
  simp [IntKind.wrap, IntKind.bits, IntKind.signed]
  omega
theorem or_one (x : Nat) (h : x < 9223372036854775808) : bits .or .u64 ((x : Int) * 2) 1 = ((2 * x + 1 : Nat) : Int) := by
  have e : (x : Int) * 2 = ((2 * x : Nat) : Int) := by omega
  have h2 := u64_or_nat (2 * x) 1 (by omega) (by decide)
  rw [e]
  rw [show ((1 : Nat) : Int) = 1 from rfl] at h2
  rw [h2]
  have h3 := Nat.two_pow_add_eq_or_of_lt (i := 1) (b := 1) (by decide) x
  rw [Nat.pow_one] at h3
  rw [h3]
theorem and_one (x : Nat) (h : x < 18446744073709551616) : bits .and .u64 (x : Int) 1 = ((x % 2 : Nat) : Int) := by
  have h2 := u64_and_nat x 1 h (by decide)
  rw [show ((1 : Nat) : Int) = 1 from rfl] at h2
  rw [h2, Nat.and_one_is_mod]
theorem or_128 (x : Nat) (h : x < 256) : bits .or .u8 (x : Int) 128 = ((x % 128 + 128 : Nat) : Int) := by
  have h2 := u8_or_nat x 128 h (by decide)
  rw [show ((128 : Nat) : Int) = 128 from rfl] at h2
  rw [h2]
  have : ∀ y : Fin 256, y.val ||| 128 = y.val % 128 + 128 := by decide +kernel
  rw [this ⟨x, h⟩]
theorem andNot_128 (x : Nat) (h : x < 256) : bits .andNot .u8 (x : Int) 128 = ((x % 128 : Nat) : Int) := by
  have h2 := u8_andNot_nat x 128 h (by decide)
  rw [show ((128 : Nat) : Int) = 128 from rfl] at h2
  rw [h2]
  have : ∀ y : Fin 256, y.val &&& (255 - 128) = y.val % 128 := by decide +kernel
  rw [this ⟨x, h⟩]
theorem and_127 (x : Nat) (h : x < 256) : bits .and .u8 (x : Int) 127 = ((x % 128 : Nat) : Int) := by
  have h2 := u8_and_nat x 127 h (by decide)
  rw [show ((127 : Nat) : Int) = 127 from rfl] at h2
  rw [h2]
  have : ∀ y : Fin 256, y.val &&& 127 = y.val % 128 := by decide +kernel
  rw [this ⟨x, h⟩]
theorem and_128 (x : Nat) (h : x < 256) : bits .and .u8 (x : Int) 128 = ((if x < 128 then 0 else 128 : Nat) : Int) := by
  have h2 := u8_and_nat x 128 h (by decide)
  rw [show ((128 : Nat) : Int) = 128 from rfl] at h2
  rw [h2]
  have : ∀ y : Fin 256, y.val &&& 128 = if y.val < 128 then 0 else 128 := by decide +kernel
  rw [this ⟨x, h⟩]
theorem and_63 (x : Nat) (h : x < 256) : bits .and .u8 (x : Int) 63 = ((x % 64 : Nat) : Int) := by
  have h2 := u8_and_nat x 63 h (by decide)
  rw [show ((63 : Nat) : Int) = 63 from rfl] at h2
  rw [h2]
  have : ∀ y : Fin 256, y.val &&& 63 = y.val % 64 := by decide +kernel
  rw [this ⟨x, h⟩]
/-- Seven more bits. -/
theorem or_part (acc c m : Nat) (ha : acc < 2 ^ m) (h1 : acc < 18446744073709551616) (h2 : c * 2 ^ m < 18446744073709551616) :
    bits .or .u64 (acc : Int) ((c * 2 ^ m : Nat) : Int) = ((acc + c * 2 ^ m : Nat) : Int) := by
  rw [u64_or_nat _ _ h1 h2]
  have h3 := Nat.two_pow_add_eq_or_of_lt (i := m) (b := acc) ha c
  rw [Nat.or_comm, Nat.mul_comm c, ← h3]
  congr 1; omega
end Go.Proofs.Ytpnhjjihdcopnaa.M

/- Bytes as values; bytes as a string; a new row. -/
set_option linter.unusedSimpArgs false
set_option linter.unusedVariables false
namespace Go.Proofs.Ytpnhjjihdcopnaa
open Go.RowKit M

def U8s (l : List Nat) : List Value := l.map (fun (x : Nat) => Value.int .u8 x)
theorem U8s_one (B : List Nat) : ∀ u ∈ U8s B, u.oneCell' = true := by
  intro u hu
  simp only [U8s, List.mem_map] at hu
  obtain ⟨x, _, rfl⟩ := hu
  rfl
theorem U8s_len (B : List Nat) : (U8s B).length = B.length := by simp [U8s]
theorem U8s_append (B C : List Nat) : U8s (B ++ C) = U8s B ++ U8s C := by simp [U8s]

theorem Try.info5 : (Try.prog.info? 5).map (fun i => (i.zero, i.size, i.bytes)) = some (some (.int .u8 0), 1, 1) := by kernel_rfl

/-- A new slice whose cells are xs. -/
def NewRow (e : TypeId) (w : World) (xs : List Value) (en : Ending) (w' : World) : Prop :=
  ∃ sv, en = .returned sv ∧ w'.ownsRow w.heap.size e 1 sv xs.length xs ∧ Only Nil w w'

def strOf (B : List Nat) : ByteArray := strOfNums (B.map fun (x : Nat) => (x : Int))

theorem conv_src (w : World) (b : Nat) (s : Value) (B : List Nat) (h : Src w b s (U8s B)) :
    (convert 23 9 s).run Try.prog w = .ok (.string (strOf B)) w := by
  obtain ⟨ao, cap, off, rfl, h2, h3, h4⟩ := h.opened (n := B.length) (by simp [U8s])
  by_cases h0 : 0 < B.length
  · have e := h2 h0
    subst e
    refine run_convert_bytes_arg w 23 5 Try.underlying23 Try.underlying5 b off B.length cap (B.map fun (x : Nat) => (x : Int)) (by simp) ?_ 9 Try.underlying9
    intro i hi
    have hb : (B.map fun (x : Nat) => (x : Int)).getD i 0 = (B[i] : Int) := by simp [List.getD, List.getElem?_eq_getElem hi]
    rw [hb]
    exact h4 i _ (by simp [U8s, List.getElem?_eq_getElem hi])
  · have hB : B = [] := List.eq_nil_of_length_eq_zero (by omega)
    subst hB
    cases ao with
    | none => exact run_convert_bytes_nil w 23 5 Try.underlying23 Try.underlying5 0 cap 9 Try.underlying9
    | some a =>
      have hl := run_loadCells_list (P := Try.prog) w a [] (fun j v hj => by simp at hj)
      show (convert 23 9 (.slice (some a) 0 cap)).run Try.prog w = _
      rw [run_convert_bytes_string w 23 9 5 _ 0 cap Try.underlying23 Try.underlying5 Try.underlying9, run_bytesToString w a 0 cap [] (by simpa using hl)]
      rfl

theorem ret_of {k : IntKind} {a b : Int} (h : a = b) : Ending.returned (.int k a) = .returned (.int k b) := by rw [h]
end Go.Proofs.Ytpnhjjihdcopnaa

/- Put and PutVar: a number behind others. -/
set_option linter.unusedSimpArgs false
set_option linter.unusedVariables false
namespace Go.Proofs.Ytpnhjjihdcopnaa
open Go.RowKit M

theorem part_last (v : Nat) (h : v < 128) : IntKind.u8.wrap (v : Int) = (v : Int) := by rw [wrap_u8, Nat.mod_eq_of_lt (by omega)]
theorem part_more (v : Nat) : bits .or .u8 ((v : Int) % 256) 128 = ((v % 128 + 128 : Nat) : Int) := by
  rw [show (v : Int) % 256 = ((v % 256 : Nat) : Int) by omega, or_128 _ (Nat.mod_lt _ (by decide))]; congr 2; omega

/-- What may be appended to, so that new memory is made: a row of one's own, or any slice without spare room. -/
def AppRow (w0 wr : World) (s : Value) (B : List Nat) : Prop :=
  wr.ownsRow w0.heap.size 5 1 s B.length (U8s B) ∨ ∃ x, s = .slice (some x) B.length B.length ∧ ∀ j u, (U8s B)[j]? = some u → wr.cell? (x.add j) = some u

section
variable {P : Program} {w : World}
theorem wpList_append_app {ops : Array Oper} {rest : List Oper} {o : Oper} {a : Act} {Q : Exit → Act → World → Prop} (hgd : o.guard = none) (s x : Operand) (t : TypeId)
    (ho : o.op = .call { callee := .builtin .append, args := #[s, x], argTypes := #[t, t] })
    (w0 : World) (i : TypeInfo) (z : Value) (ht : P.underlying t = some (.slice 5)) (hi : P.info? 5 = some i) (hz : i.zero = some z)
    (hsize : i.size = 1) (hby : i.bytes = 1) (hzs : z.cells.size = 1)
    (v : Value) (B : List Nat) (hs : a.eval s = v) (happ : AppRow w0 w v B) (x0 : Value) (c : Nat) (hx0 : x0 = .int .u8 c)
    (hx : a.eval x = .slice (some ⟨w.heap.size, 0, none⟩) 1 1) (h63 : B.length + 1 ≤ 1099511627776) (hbase : Only Nil w0 w)
    (h : ∀ v' w', w'.ownsRow w0.heap.size 5 1 v' (B ++ [c]).length (U8s (B ++ [c])) → Only Nil w0 w' → wpList P ops Q rest (a.put o.dst v') w') :
    wpList P ops Q (o :: rest) a (w.alloc (.cells #[x0] 5)) := by
  have hb := hbase.size
  have e1 : U8s (B ++ [c]) = U8s B ++ [x0] := by rw [U8s_append, hx0]; rfl
  have e2 : (B ++ [c]).length = B.length + 1 := by simp
  rcases happ with hown | ⟨y, rfl, hc⟩
  · refine wpList_append_one hgd s x t ho w0.heap.size 5 i z 1 ht hi hz hsize hby hzs v B.length (U8s B) hs hown x0 (by rw [hx0]; rfl) hx (by simp [maxLen]; omega) (by omega) hb ?_
    intro g cap w' h2 h3 h4 h5 h6
    refine h _ w' (by rw [e1, e2]; exact h2) (hbase.nil_own hown h6)
  · refine wpList_plain hgd fun K hK => ?_
    have hr := run_append_grow (P := P) (w.alloc (.cells #[x0] 5)) t o.type 5 i z ht hi hz y B.length B.length (U8s B) (by rw [hsize, U8s_len]; omega)
      (fun j u hj => by
        have := hc j u hj
        exact ((Only.refl Nil w).alloc (.cells #[x0] 5)).cell this (fun h => h))
      ⟨w.heap.size, 0, none⟩ 1 1 [x0] (by rw [hsize]; rfl)
      (by
        intro j u hj
        match j, hj with
        | 0, hj => simp at hj; subst hj; simp [Addr.add]) (by omega) (by omega) (growslice_fits (by omega) (by rw [hby]; omega))
    unfold Oper.wp execOp
    simp only [ho, resolve, invoke, builtin, Sem.run_bind, Sem.run_pure, Result.andThen_ok, List.map_toArray, List.map_cons, List.map_nil, hs, hx, hr]
    have hge := grownCap_ge (w.alloc (.cells #[x0] 5)) (B.length + 1) B.length 5
    have hcm : grownCap (w.alloc (.cells #[x0] 5)) (B.length + 1) B.length 5 ≤ maxLen := grownCap_le_maxLen _ (B.length + 1) B.length 5 (by simp [maxLen]; omega)
    refine hK _ _ (h _ _ ?_ ?_)
    · rw [e1, e2]
      refine ⟨by simp [U8s_len], .inr ⟨_, _, _, rfl, ?_, heap_alloc_new (w.alloc (.cells #[x0] 5)).drew _, hge, hcm, ?_, ?_⟩⟩
      · simp; omega
      · simp only [Array.size_append, List.size_toArray, size_zeroCells, hzs, U8s_len, List.length_singleton]
        omega
      · simp only [Array.toList_append, List.append_assoc]
        rw [← List.append_assoc]
        refine List.take_left' ?_
        simp [U8s_len]
    · exact ((hbase.alloc _).drew).alloc _
end

end Go.Proofs.Ytpnhjjihdcopnaa

/- Bytes that lie wherever: what is read, what may be appended to. -/
set_option linter.unusedSimpArgs false
set_option linter.unusedVariables false
namespace Go.Proofs.Ytpnhjjihdcopnaa
open Go.RowKit M

/-- Bytes that are read: a slice, wherever it lies. -/
def Row (w : World) (s : Value) (B : List Nat) : Prop :=
  ∃ b ao cap off, s = .slice ao B.length cap ∧ B.length ≤ cap ∧ cap ≤ maxLen ∧ (0 < B.length → ao = some ⟨b, off, none⟩) ∧ (ao = none → cap = 0) ∧ CellsAt w b off (U8s B) ∧ ∀ x ∈ B, x < 256

theorem Row.kept {w w' : World} {s : Value} {B : List Nat} (h : Row w s B) (ho : Only Nil w w') : Row w' s B := by
  obtain ⟨b, ao, cap, off, h1, h2, h3, h4, h5, h6, h7⟩ := h
  exact ⟨b, ao, cap, off, h1, h2, h3, h4, h5, h6.kept ho (fun _ h => h), h7⟩
theorem Row.src {w : World} {s : Value} {B : List Nat} (h : Row w s B) : ∃ b, Src w b s (U8s B) := by
  obtain ⟨b, ao, cap, off, h1, h2, h3, h4, h5, h6, h7⟩ := h
  exact ⟨b, ao, cap, off, by rw [U8s_len]; exact h1, fun h => h4 (by rwa [U8s_len] at h), h5, h6⟩
theorem Row.of_own {w : World} {base : Nat} {e : TypeId} {s : Value} {B : List Nat} {n : Nat} (h : w.ownsRow base e 1 s n (U8s B)) (h8 : ∀ x ∈ B, x < 256) : Row w s B := by
  have hl : B.length = n := by simpa [U8s] using h.1
  obtain ⟨ao, cap, off, h1, h2, h3, h4⟩ := Src.of_own h
  rw [U8s_len] at h1 h2
  rcases h.2 with ⟨rfl, h0⟩ | ⟨g, cap', cur, rfl, hb, hg, hnc, hcm, _⟩
  · refine ⟨0, none, 0, 0, by rw [hl, h0], by omega, Nat.zero_le _, fun h => by omega, fun _ => rfl, fun i u hi => ?_, h8⟩
    have hB : B = [] := List.eq_nil_of_length_eq_zero (by omega)
    subst hB; simp [U8s] at hi
  · simp only [Value.slice.injEq] at h1
    obtain ⟨rfl, _, rfl⟩ := h1
    exact ⟨g, _, cap', off, by rw [hl], by omega, hcm, h2, h3, h4, h8⟩

theorem src_nil (w : World) : Src w 0 (.slice none 0 0) (U8s []) := ⟨none, 0, 0, rfl, fun h => by simp [U8s] at h, fun _ => rfl, fun i u h => by simp [U8s] at h⟩
theorem app_nil (w : World) : AppRow w w (.slice none 0 0) [] := Or.inl (World.ownsRow_nil _ _ _ _)

theorem IsRow.row {w : World} {a : Option Addr} {len cap : Nat} {zs : List Int} (h : IsRow .u8 w a len cap zs) :
    ∃ B : List Nat, B.length = len ∧ Row w (.slice a len cap) B := by
  obtain ⟨b, B, h1, ⟨ao, cap', off, e, h2, h3, h4⟩, _, h6⟩ := h.bytes
  rw [List.length_map, h1] at e
  simp only [Value.slice.injEq] at e
  obtain ⟨rfl, _, rfl⟩ := e
  refine ⟨B, h1, b, a, cap, off, by rw [h1], ?_, ?_, fun h => h2 (by simpa using h), h3, h4, h6⟩
  · rcases h with ⟨rfl, rfl, rfl, rfl⟩ | ⟨x, rfl, hl, hm, _⟩
    · omega
    · omega
  · rcases h with ⟨rfl, rfl, rfl, rfl⟩ | ⟨x, rfl, hl, hm, _⟩
    · exact Nat.zero_le _
    · exact hm

/-- A slice up to its length alone: what may be appended to. -/
theorem Row.app {w : World} {ao : Option Addr} {n cap : Nat} {B : List Nat} (h : Row w (.slice ao n cap) B) : AppRow w w (.slice ao n n) B ∧ B.length = n := by
  obtain ⟨b, ao', cap', off, e, h2, h3, h4, h5, h6, h7⟩ := h
  simp only [Value.slice.injEq] at e
  obtain ⟨rfl, rfl, rfl⟩ := e
  refine ⟨?_, rfl⟩
  cases ao with
  | none =>
    have hn : B.length = 0 := by have := h5 rfl; omega
    have hB : B = [] := List.eq_nil_of_length_eq_zero hn
    subst hB
    exact app_nil w
  | some x =>
    refine Or.inr ⟨x, rfl, fun j u hj => ?_⟩
    have hjl : j < B.length := by have := (List.getElem?_eq_some_iff.1 hj).1; rwa [U8s_len] at this
    have ex := h4 (by omega)
    injection ex with ex
    subst ex
    rw [addr_add]
    exact h6 j u hj

theorem Row.caps {w : World} {ao : Option Addr} {n cap : Nat} {B : List Nat} (h : Row w (.slice ao n cap) B) : n ≤ cap ∧ cap ≤ maxLen := by
  obtain ⟨b, ao', cap', off, e, h2, h3, h4, h5, h6, h7⟩ := h
  simp only [Value.slice.injEq] at e
  obtain ⟨rfl, rfl, rfl⟩ := e
  exact ⟨h2, h3⟩

/-- A slice's tail. -/
theorem Row.tail {w : World} {g m cap : Nat} {C : List Nat} (h : Row w (.slice (some ⟨g, 0, none⟩) m cap) C) {n : Nat} (hn : n < m) :
    Src w g (.slice (some ⟨g, n, none⟩) (m - n) (cap - n)) (U8s (C.drop n)) := by
  obtain ⟨b, ao, cap', off, e, h2, h3, h4, h5, h6, h7⟩ := h
  simp only [Value.slice.injEq] at e
  obtain ⟨rfl, rfl, rfl⟩ := e
  have e2 := h4 (by omega)
  simp only [Option.some.injEq, Addr.mk.injEq, and_true] at e2
  obtain ⟨rfl, rfl⟩ := e2
  refine ⟨some ⟨g, n, none⟩, cap - n, n, by simp [U8s], fun _ => rfl, fun h => (by cases h), fun i u hi => ?_⟩
  have hd : (U8s C)[n + i]? = some u := by
    rw [← hi]; simp [U8s]
  have := h6 (n + i) u hd
  rw [Nat.zero_add] at this
  exact this
end Go.Proofs.Ytpnhjjihdcopnaa

/- Read and ReadVar: the number that bytes begin with. -/
set_option linter.unusedSimpArgs false
set_option linter.unusedVariables false
namespace Go.Proofs.Ytpnhjjihdcopnaa
open Go.RowKit M

theorem andNot_eq (x p : Nat) (h : x < 256) (hp : x % 128 = p) : bits BinOp.andNot IntKind.u8 (x : Int) 128 = (p : Int) := by rw [andNot_128 x h, hp]

def triple (r : Nat × Nat × Bool) : Value := .tuple #[.int .u64 (r.1 : Nat), .int .i64 (r.2.1 : Nat), .bool r.2.2]

theorem shl_eq (p t q : Nat) (hq : p * 2 ^ t % 18446744073709551616 = q) : IntKind.u64.wrap ((p : Int) * 2 ^ t) = (q : Int) := by
  rw [pow_cast, ← Int.natCast_mul, wrap_u64, hq]
theorem shr_eq (q t : Nat) : ((q : Int) / 2 ^ t) = ((q / 2 ^ t : Nat) : Int) := by rw [pow_cast]; rfl
theorem part_fits (p k : Nat) (hp : p < 128) (h : ¬ (k = 9 ∧ 1 < p)) (hk : k < 10) : p * 2 ^ (7 * k) < 18446744073709551616 := by
  by_cases e : k = 9
  · subst e
    have : (2 : Nat) ^ (7 * 9) = 9223372036854775808 := by decide
    rw [this]; omega
  · have h1 := Nat.pow_le_pow_right (n := 2) (by omega) (show 7 * k ≤ 56 by omega)
    have e : (2 : Nat) ^ 56 = 72057594037927936 := by decide
    have h2 := Nat.mul_le_mul (show p ≤ 127 by omega) h1
    omega
theorem part_good (p t q : Nat) (hq : p * 2 ^ t = q) : ((q : Int) / 2 ^ t != (p : Int)) = false := by
  rw [shr_eq, ← hq, Nat.mul_div_cancel _ (Nat.two_pow_pos t)]; simp
theorem part_bad (p q : Nat) (hp : p < 128) (h1 : 1 < p) (hq : p * 2 ^ 63 % 18446744073709551616 = q) : ((q : Int) / 2 ^ 63 != (p : Int)) = true := by
  rw [shr_eq, bne_iff_ne]
  have e : (2 : Nat) ^ 63 = 9223372036854775808 := by decide
  rw [e] at hq ⊢
  omega

theorem and127_eq (x p : Nat) (h : x < 256) (hp : x % 128 = p) : bits BinOp.and IntKind.u8 (x : Int) 127 = (p : Int) := by rw [and_127 x h, hp]

end Go.Proofs.Ytpnhjjihdcopnaa

/- Packages varint and waferref1: the signs. -/
set_option linter.unusedSimpArgs false
set_option linter.unusedVariables false
namespace Go.Proofs.Ytpnhjjihdcopnaa
open Go.RowKit M

end Go.Proofs.Ytpnhjjihdcopnaa

