/- A state of 32 bits stays one. No Go program is imported. -/
import Derived.Test.YthimhbfglgnohaaMSt
set_option linter.unusedSimpArgs false
set_option linter.unusedVariables false
namespace Go.Proofs.Ythimhbfglgnohaa.M
open Go.RowKit

theorem St.Ok.setR {s : St} (h : s.Ok) (a : Nat) {r : Nat} (hr : r < 4294967296) : (M.setR s a r).Ok :=
  ⟨fun k hk => by show (if k = a then r else s.R k) < _; split; exact hr; exact h.reg k hk, h.high, h.mem, h.inp, h.out, h.pc, h.len, h.fin, h.trap⟩
theorem getD_lt {l : List Nat} {b k : Nat} (h : ∀ x ∈ l, x < b) (hb : 0 < b) : l.getD k 0 < b := by
  rw [List.getD_eq_getElem?_getD]
  cases hk : l[k]? with
  | none => exact hb
  | some x => exact h x (List.mem_of_getElem? hk)
theorem load_ok {s s' : St} {i : Ins} (h : s.Ok) (e : M.load s i = some s') : s'.Ok := by
  unfold M.load at e
  split at e
  · cases e
  · split at e
    · cases e; exact h.setR _ (getD_lt h.mem (by decide))
    · split at e
      · cases e
        have hi : ({ s with inp := s.inp.drop 1 } : St).Ok := ⟨h.reg, h.high, h.mem, fun x hx => h.inp x (List.mem_of_mem_drop hx), h.out, h.pc, h.len, h.fin, h.trap⟩
        exact hi.setR _ (Nat.lt_trans (getD_lt h.inp (by decide)) (by decide))
      · split at e
        · cases e; refine h.setR _ ?_; split <;> decide
        · cases e
theorem store_ok {s s' : St} {i : Ins} (h : s.Ok) (ha : i.A.toNat < 16) (e : M.store s i = some s') : s'.Ok := by
  unfold M.store at e
  split at e
  · cases e
  · split at e
    · cases e
      refine ⟨h.reg, h.high, fun x hx => ?_, h.inp, h.out, h.pc, by simpa using h.len, h.fin, h.trap⟩
      rcases List.mem_or_eq_of_mem_set hx with hx | rfl
      · exact h.mem x hx
      · exact h.reg _ ha
    · split at e
      · cases e
        refine ⟨h.reg, h.high, h.mem, h.inp, fun x hx => ?_, h.pc, h.len, h.fin, h.trap⟩
        rcases List.mem_append.1 hx with hx | hx
        · exact h.out x hx
        · rw [List.mem_singleton.1 hx]; exact Nat.mod_lt _ (by decide)
      · cases e
theorem alu_ok {s t : St} {i : Ins} {b n r : Nat} (h : s.Ok) (hb : b < 4294967296) (hn : n < 4294967296) (e : alu s i b n = some (t, r)) : t.Ok ∧ r < 4294967296 ∧ t.out = s.out ∧ t.pc = s.pc ∧ t.fin = s.fin ∧ t.trap = s.trap ∧ t.mem = s.mem ∧ t.inp = s.inp := by
  have hh : ∀ x, x < 4294967296 → ({ s with H := x } : St).Ok := fun x hx => ⟨h.reg, hx, h.mem, h.inp, h.out, h.pc, h.len, h.fin, h.trap⟩
  unfold alu at e
  by_cases o0 : i.Op = 0
  · rw [if_pos o0] at e
    cases e
    refine ⟨h, ?_, rfl, rfl, rfl, rfl, rfl, rfl⟩
    split
    · split
      · exact h.high
      · exact Nat.mod_lt _ (by decide)
    · exact hn
  rw [if_neg o0] at e
  by_cases o1 : i.Op = 1
  · rw [if_pos o1] at e
    cases e; exact ⟨h, U_lt _, rfl, rfl, rfl, rfl, rfl, rfl⟩
  rw [if_neg o1] at e
  by_cases o2 : i.Op = 2
  · rw [if_pos o2] at e
    cases e; exact ⟨h, U_lt _, rfl, rfl, rfl, rfl, rfl, rfl⟩
  rw [if_neg o2] at e
  by_cases o3 : i.Op = 3
  · rw [if_pos o3] at e
    cases e; exact ⟨h, rorN_lt _ _ hb, rfl, rfl, rfl, rfl, rfl, rfl⟩
  rw [if_neg o3] at e
  by_cases o4 : i.Op = 4
  · rw [if_pos o4] at e
    cases e; exact ⟨h, Nat.lt_of_le_of_lt Nat.and_le_left hb, rfl, rfl, rfl, rfl, rfl, rfl⟩
  rw [if_neg o4] at e
  by_cases o5 : i.Op = 5
  · rw [if_pos o5] at e
    cases e; exact ⟨h, Nat.lt_of_le_of_lt Nat.and_le_left hb, rfl, rfl, rfl, rfl, rfl, rfl⟩
  rw [if_neg o5] at e
  by_cases o6 : i.Op = 6
  · rw [if_pos o6] at e
    cases e; exact ⟨h, Nat.or_lt_two_pow (n := 32) hb hn, rfl, rfl, rfl, rfl, rfl, rfl⟩
  rw [if_neg o6] at e
  by_cases o7 : i.Op = 7
  · rw [if_pos o7] at e
    cases e; exact ⟨h, Nat.xor_lt_two_pow (n := 32) hb hn, rfl, rfl, rfl, rfl, rfl, rfl⟩
  rw [if_neg o7] at e
  by_cases o8 : i.Op = 8
  · rw [if_pos o8] at e
    cases e; exact ⟨⟨h.reg, h.high, h.mem, h.inp, h.out, h.pc, h.len, h.fin, h.trap⟩, Nat.mod_lt _ (by decide), rfl, rfl, rfl, rfl, rfl, rfl⟩
  rw [if_neg o8] at e
  by_cases o9 : i.Op = 9
  · rw [if_pos o9] at e
    cases e; exact ⟨⟨h.reg, h.high, h.mem, h.inp, h.out, h.pc, h.len, h.fin, h.trap⟩, U_lt _, rfl, rfl, rfl, rfl, rfl, rfl⟩
  rw [if_neg o9] at e
  by_cases o10 : i.Op = 10
  · rw [if_pos o10] at e
    cases e
    refine ⟨hh _ ?_, ?_, rfl, rfl, rfl, rfl, rfl, rfl⟩
    · split
      · have : b * n < 4294967296 * 4294967296 := Nat.mul_lt_mul'' hb hn
        exact Nat.div_lt_of_lt_mul this
      · exact U_lt _
    · split
      · exact Nat.mod_lt _ (by decide)
      · exact U_lt _
  rw [if_neg o10] at e
  by_cases o11 : i.Op = 11
  · rw [if_pos o11] at e
    by_cases hs : S n < 1
    · rw [if_pos hs] at e; cases e
    · rw [if_neg hs] at e; cases e; exact ⟨hh _ (U_lt _), U_lt _, rfl, rfl, rfl, rfl, rfl, rfl⟩
  rw [if_neg o11] at e
  cases e
theorem opnd_lt {s : St} {i : Ins} (h : s.Ok) (hc : i.C.toNat < 16) : opnd s i < 4294967296 := by
  unfold opnd
  split
  · exact h.reg _ hc
  · split
    · exact U_lt _
    · exact U_lt _
theorem reckon_ok {s s' : St} {i : Ins} (h : s.Ok) (hb : i.B.toNat < 16) (hc : i.C.toNat < 16) (e : M.reckon s i = some s') : s'.Ok := by
  unfold M.reckon at e
  cases ea : alu s i (s.R i.B.toNat) (opnd s i) with
  | none => rw [ea] at e; cases e
  | some x =>
    rw [ea] at e
    cases e
    obtain ⟨h1, h2, _⟩ := alu_ok (t := x.1) (r := x.2) h (h.reg _ hb) (opnd_lt h hc) ea
    exact h1.setR _ h2
theorem branch_ok {s s' : St} {i : Ins} (h : s.Ok) (hp : s.pc < 1048576) (ht : i.U = false → 0 ≤ i.Imm ∧ i.Imm ≤ 15) (e : M.branch s i = some s') : s'.Ok := by
  unfold M.branch at e
  split at e
  · cases e; exact ⟨h.reg, h.high, h.mem, h.inp, h.out, hp, h.len, h.fin, h.trap⟩
  split at e
  · rename_i hh
    cases e
    obtain ⟨h0, h1⟩ := ht hh.1
    refine ⟨h.reg, h.high, h.mem, h.inp, h.out, h.pc, h.len, ?_, ?_⟩
    · show (if _ then 1 else 2) ≤ 2
      split <;> decide
    · show i.Imm.toNat ≤ 15
      omega
  split at e
  · cases e
  · rename_i hb
    cases e
    refine ⟨fun k hk => ?_, h.high, h.mem, h.inp, h.out, ?_, h.len, h.fin, h.trap⟩
    · show (if i.V then upd s.R 15 (s.pc + 1) else s.R) k < _
      split
      · unfold upd; split
        · omega
        · exact h.reg k hk
      · exact h.reg k hk
    · show (target s i).toNat ≤ _
      omega
theorem St.Ok.next {s : St} (h : s.Ok) (hp : s.pc < 1048576) : (M.next s).Ok := ⟨h.reg, h.high, h.mem, h.inp, h.out, hp, h.len, h.fin, h.trap⟩
theorem St.Ok.ended {s : St} (h : s.Ok) {t : Nat} (ht : t ≤ 15) : (M.ended s t).Ok := ⟨h.reg, h.high, h.mem, h.inp, h.out, h.pc, h.len, by show (if _ then 1 else 2) ≤ 2; split <;> decide, ht⟩
/-- What an instruction, whichever, leaves where it was. -/
theorem reckon_keeps {s s' : St} {i : Ins} (h : s.Ok) (hb : i.B.toNat < 16) (hc : i.C.toNat < 16) (e : M.reckon s i = some s') : s'.pc = s.pc ∧ s'.fin = s.fin ∧ s'.trap = s.trap ∧ s'.mem = s.mem ∧ s'.inp = s.inp ∧ s'.out = s.out := by
  unfold M.reckon at e
  cases ea : alu s i (s.R i.B.toNat) (opnd s i) with
  | none => rw [ea] at e; cases e
  | some x =>
    rw [ea] at e
    cases e
    obtain ⟨_, _, h3, h4, h5, h6, h7, h8⟩ := alu_ok (t := x.1) (r := x.2) h (h.reg _ hb) (opnd_lt h hc) ea
    exact ⟨h4, h5, h6, h7, h8, h3⟩
theorem load_keeps {s s' : St} {i : Ins} (e : M.load s i = some s') : s'.pc = s.pc ∧ s'.fin = s.fin ∧ s'.trap = s.trap ∧ s'.mem = s.mem ∧ s'.out = s.out := by
  unfold M.load at e
  split at e
  · cases e
  split at e
  · cases e; exact ⟨rfl, rfl, rfl, rfl, rfl⟩
  split at e
  · cases e; exact ⟨rfl, rfl, rfl, rfl, rfl⟩
  split at e
  · cases e; exact ⟨rfl, rfl, rfl, rfl, rfl⟩
  · cases e
theorem store_keeps {s s' : St} {i : Ins} (e : M.store s i = some s') : s'.pc = s.pc ∧ s'.fin = s.fin ∧ s'.trap = s.trap ∧ s'.mem.length = s.mem.length ∧ s'.out.length ≤ s.out.length + 1 := by
  unfold M.store at e
  split at e
  · cases e
  split at e
  · cases e; exact ⟨rfl, rfl, rfl, by simp, Nat.le_succ _⟩
  split at e
  · cases e; exact ⟨rfl, rfl, rfl, rfl, by simp⟩
  · cases e
theorem branch_keeps {s s' : St} {i : Ins} (e : M.branch s i = some s') : s'.mem = s.mem ∧ s'.out = s.out := by
  unfold M.branch at e
  split at e
  · cases e; exact ⟨rfl, rfl⟩
  split at e
  · cases e; exact ⟨rfl, rfl⟩
  split at e
  · cases e
  · cases e; exact ⟨rfl, rfl⟩

/-- The fields of an instruction that there is. -/
structure Fields (i : Ins) : Prop where
  F : i.F = 0 ∨ i.F = 1 ∨ i.F = 2 ∨ i.F = 3
  A : 0 ≤ i.A ∧ i.A < 16
  B : 0 ≤ i.B ∧ i.B < 16
  C : 0 ≤ i.C ∧ i.C < 16
  Op : 0 ≤ i.Op ∧ i.Op < 16
  m1 : -2147483648 ≤ i.Imm
  m2 : i.Imm ≤ 2147483647
  m3 : i.F = 3 → i.U = false → 0 ≤ i.Imm ∧ i.Imm ≤ 15
  m4 : i.F = 1 → 0 ≤ i.Imm ∧ i.Imm ≤ 65535
theorem Ins.Good.fields {i : Ins} (h : i.Good) : Fields i := by
  unfold Ins.Good at h
  refine ⟨by omega, by omega, by omega, by omega, by omega, by omega, by omega, fun h3 hu => ?_, fun h1 => by omega⟩
  rcases h.2.2.2.2 with h | h | h | h | h
  · omega
  · omega
  · omega
  · omega
  · rw [hu] at h; exact absurd h.2.1 (by decide)

theorem exec_ok {s s' : St} {i : Ins} (h : s.Ok) (hf : Fields i) (hp : s.pc < 1048576) (e : exec s i = some s') : s'.Ok ∧ s'.mem.length = s.mem.length ∧ s'.out.length ≤ s.out.length + 1 := by
  have hA := hf.A
  have hB := hf.B
  have hC := hf.C
  unfold exec at e
  split at e
  · rename_i h3
    obtain ⟨k1, k2⟩ := branch_keeps e
    exact ⟨branch_ok h hp (hf.m3 h3) e, by rw [k1], by rw [k2]; omega⟩
  split at e
  · split at e
    · cases ea : M.store s i with
      | none => rw [ea] at e; cases e
      | some x =>
        rw [ea] at e; cases e
        obtain ⟨k1, k2, k3, k4, k5⟩ := store_keeps ea
        exact ⟨(store_ok h (by omega) ea).next (by rw [k1]; exact hp), k4, k5⟩
    · cases ea : M.load s i with
      | none => rw [ea] at e; cases e
      | some x =>
        rw [ea] at e; cases e
        obtain ⟨k1, k2, k3, k4, k5⟩ := load_keeps ea
        exact ⟨(load_ok h ea).next (by rw [k1]; exact hp), by rw [show (M.next x).mem = x.mem from rfl, k4], by rw [show (M.next x).out = x.out from rfl, k5]; omega⟩
  · cases ea : M.reckon s i with
    | none => rw [ea] at e; cases e
    | some x =>
      rw [ea] at e; cases e
      obtain ⟨k1, k2, k3, k4, k5, k6⟩ := reckon_keeps h (by omega) (by omega) ea
      exact ⟨(reckon_ok h (by omega) (by omega) ea).next (by rw [k1]; exact hp), by rw [show (M.next x).mem = x.mem from rfl, k4], by rw [show (M.next x).out = x.out from rfl, k6]; omega⟩
theorem dec_fields {w : Nat} (hw : w < 4294967296) (h : isOk w = true) : Fields (dec w) := (dec_good w hw h).1.fields
theorem doIt_ok {code : List Nat} {s s' : St} (h : s.Ok) (hc : ∀ x ∈ code, x < 4294967296) (hl : code.length ≤ 1048576) (e : doIt code s = some s') : s'.Ok ∧ s'.mem.length = s.mem.length ∧ s'.out.length ≤ s.out.length + 1 := by
  unfold doIt at e
  split at e
  · split at e
    · rename_i hp hk
      exact exec_ok h (dec_fields (getD_lt hc (by decide)) hk) (by omega) e
    · cases e
  · cases e
theorem step_ok {code : List Nat} {s : St} (h : s.Ok) (hc : ∀ x ∈ code, x < 4294967296) (hl : code.length ≤ 1048576) : (step code s).Ok ∧ (step code s).mem.length = s.mem.length ∧ (step code s).out.length ≤ s.out.length + 1 := by
  unfold step
  split
  · exact ⟨h, rfl, Nat.le_succ _⟩
  · cases e : doIt code s with
    | none => exact ⟨h.ended (by decide), rfl, Nat.le_succ _⟩
    | some s' => exact doIt_ok h hc hl e
theorem run_ok {code : List Nat} (hc : ∀ x ∈ code, x < 4294967296) (hl : code.length ≤ 1048576) (k : Nat) {s : St} (h : s.Ok) : (run code k s).Ok ∧ (run code k s).mem.length = s.mem.length ∧ (run code k s).out.length ≤ s.out.length + k := by
  induction k generalizing s with
  | zero => exact ⟨h, rfl, Nat.le_refl _⟩
  | succ k ih =>
    rw [run_succ]
    obtain ⟨a1, a2, a3⟩ := step_ok h hc hl
    obtain ⟨b1, b2, b3⟩ := ih a1
    exact ⟨b1, b2.trans a2, by omega⟩
end Go.Proofs.Ythimhbfglgnohaa.M
