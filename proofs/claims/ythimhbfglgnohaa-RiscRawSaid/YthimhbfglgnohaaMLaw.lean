/- What the machine does with the codes of the laws, as mathematics. No Go program is imported. -/
import Derived.Test.YthimhbfglgnohaaMOk
set_option linter.unusedSimpArgs false
set_option linter.unusedVariables false
namespace Go.Proofs.Ythimhbfglgnohaa.M
open Go.RowKit

/-- A machine ahead of its first instruction. -/
def s0 (n : Nat) (inp : List Nat) : St := ⟨List.replicate n 0, inp, [], fun _ => 0, 0, false, false, false, false, 0, 0, 0⟩
theorem s0_ok (n : Nat) (inp : List Nat) (hn : n ≤ 1048576) (hi : ∀ x ∈ inp, x < 256) : (s0 n inp).Ok :=
  ⟨fun _ _ => (by decide : 0 < 4294967296), (by decide : 0 < 4294967296), fun x hx => by rw [(List.mem_replicate.1 hx).2]; decide, hi, fun _ hx => absurd hx List.not_mem_nil, Nat.zero_le _, (by show (List.replicate n 0).length ≤ 1048576; simpa using hn), Nat.zero_le _, Nat.zero_le _⟩

theorem doIt_at {code : List Nat} {s : St} {i : Ins} (h : code[s.pc]? = some (enc i)) (hg : i.Good) : doIt code s = exec s i := by
  have hl : s.pc < code.length := (List.getElem?_eq_some_iff.1 h).1
  have hd : code.getD s.pc 0 = enc i := by rw [List.getD_eq_getElem?_getD, h]; rfl
  obtain ⟨e1, e2⟩ := dec_enc i hg
  unfold doIt
  rw [if_pos hl, hd, if_pos e2, e1]
theorem step_at {code : List Nat} {s s' : St} {i : Ins} (hf : s.fin = 0) (h : code[s.pc]? = some (enc i)) (hg : i.Good) (e : exec s i = some s') : step code s = s' := by
  unfold step
  rw [if_neg (by rw [hf]; decide), doIt_at h hg, e]; rfl
theorem step_bad {code : List Nat} {s : St} {i : Ins} (hf : s.fin = 0) (h : code[s.pc]? = some (enc i)) (hg : i.Good) (e : exec s i = none) : step code s = ended s 15 := by
  unfold step
  rw [if_neg (by rw [hf]; decide), doIt_at h hg, e]; rfl
theorem run_at {code : List Nat} {s s' : St} {i : Ins} (k : Nat) (hf : s.fin = 0) (h : code[s.pc]? = some (enc i)) (hg : i.Good) (e : exec s i = some s') : run code (k + 1) s = run code k s' := by
  rw [run_succ, step_at hf h hg e]

/-- The end of a run. -/
def iEnd : Ins := ⟨3, false, true, 7, 0, 12, 0, 0⟩
theorem iEnd_good : iEnd.Good := by unfold Ins.Good iEnd; simp
theorem exec_end (s : St) : exec s iEnd = some (ended s 0) := by
  unfold exec branch iEnd
  simp [M.holds, cond]
theorem run_end {code : List Nat} {s : St} (k : Nat) (hf : s.fin = 0) (h : code[s.pc]? = some (enc iEnd)) : run code (k + 1) s = ended s 0 := by
  rw [run_at k hf h iEnd_good (exec_end s), run_fin]
  exact Nat.one_ne_zero

/-- The number that goes, and ends. -/
def cKnown : List Nat := [enc ⟨1, false, false, 1, 0, 0, 0, 65⟩, enc ⟨2, true, false, 1, 0, 0, 0, -64⟩, enc iEnd]
def sKnown : St := ⟨[0, 0, 0, 0], [], [65], upd (fun _ => 0) 1 65, 0, false, false, false, false, 2, 1, 0⟩
theorem run_known : run cKnown 10 (s0 4 []) = sKnown := by
  rw [run_at (i := ⟨1, false, false, 1, 0, 0, 0, 65⟩) (s' := { s0 4 [] with R := upd (fun _ => 0) 1 65, pc := 1 }) 9 rfl rfl (by unfold Ins.Good; simp) (by rfl)]
  rw [run_at (i := ⟨2, true, false, 1, 0, 0, 0, -64⟩) (s' := { s0 4 [] with R := upd (fun _ => 0) 1 65, pc := 2, out := [65] }) 8 rfl rfl (by unfold Ins.Good; simp) (by rfl)]
  rw [run_end 7 rfl rfl]
  rfl

/-- The loop that reads and writes. -/
def cEcho : List Nat := [enc ⟨2, false, false, 1, 0, 0, 0, -60⟩, enc ⟨3, true, false, 9, 0, 0, 0, 3⟩, enc ⟨2, false, false, 1, 0, 0, 0, -64⟩, enc ⟨2, true, false, 1, 0, 0, 0, -64⟩, enc ⟨3, true, false, 7, 0, 0, 0, -5⟩, enc iEnd]
theorem place0 {s : St} (h : s.R 0 = 0) (u v : Bool) (m : Int) : place s ⟨2, u, v, 1, 0, 0, 0, m⟩ = U m := by
  unfold place
  simp only [Int.toNat_zero, h, Nat.zero_add]
  exact Nat.mod_eq_of_lt (U_lt m)
theorem word0 {s : St} (h : s.mem = []) (p : Nat) : ¬ (p % 4 = 0 ∧ p / 4 < s.mem.length) := by
  rw [h]; exact fun h => absurd h.2 (Nat.not_lt_zero _)
theorem exec_isEnd {s : St} (h : s.R 0 = 0) (hm : s.mem = []) : exec s ⟨2, false, false, 1, 0, 0, 0, -60⟩ = some (next (setR s 1 (if s.inp.length = 0 then 1 else 0))) := by
  have e : U (-60) = 4294967236 := by decide
  unfold exec M.load
  rw [if_neg (by decide), if_pos rfl, place0 h, e, if_neg (by decide), if_neg (by decide), if_neg (word0 hm _), if_neg (by decide), if_pos rfl]
  rfl
theorem exec_byte {s : St} (h : s.R 0 = 0) (hm : s.mem = []) : exec s ⟨2, false, false, 1, 0, 0, 0, -64⟩ = some (next (setR { s with inp := s.inp.drop 1 } 1 (s.inp.getD 0 0))) := by
  have e : U (-64) = 4294967232 := by decide
  unfold exec M.load
  rw [if_neg (by decide), if_pos rfl, place0 h, e, if_neg (by decide), if_neg (by decide), if_neg (word0 hm _), if_pos rfl]
  rfl
theorem exec_put {s : St} (h : s.R 0 = 0) (hm : s.mem = []) : exec s ⟨2, true, false, 1, 0, 0, 0, -64⟩ = some (next { s with out := s.out ++ [s.R 1 % 256] }) := by
  have e : U (-64) = 4294967232 := by decide
  unfold exec M.store
  rw [if_neg (by decide), if_pos rfl, if_pos rfl, place0 h, e, if_neg (by decide), if_neg (word0 hm _), if_pos rfl]
  rfl
theorem exec_jump {s : St} (c : Nat) (hh : holds s c = true) (m : Int) (t : Nat) (ht : (s.pc : Int) + 1 + m = t) (h2 : t ≤ 1048576) : exec s ⟨3, true, false, c, 0, 0, 0, m⟩ = some { s with pc := t } := by
  have e : target s ⟨3, true, false, c, 0, 0, 0, m⟩ = t := ht
  unfold exec M.branch
  rw [if_pos rfl, e, if_neg (by show ¬ holds s ((c : Int).toNat) = false; rw [Int.toNat_natCast, hh]; decide), if_neg (by intro h; cases h.1), if_neg (by omega)]
  rfl
theorem exec_stay {s : St} (c : Nat) (hh : holds s c = false) (u v : Bool) (b o d : Int) (m : Int) : exec s ⟨3, u, v, c, b, d, o, m⟩ = some { s with pc := s.pc + 1 } := by
  unfold exec M.branch
  rw [if_pos rfl, if_pos (by show holds s ((c : Int).toNat) = false; rw [Int.toNat_natCast, hh])]
theorem holds_7 (s : St) : holds s 7 = true := rfl
theorem goodM (u v : Bool) (m : Int) (h1 : -524288 ≤ m) (h2 : m ≤ 524287) : (Ins.mk 2 u v 1 0 0 0 m).Good := by
  unfold Ins.Good
  exact ⟨(by decide : (0 : Int) ≤ 2), (by decide : (2 : Int) ≤ 3), (by decide : (0 : Int) ≤ 1), (by decide : (1 : Int) ≤ 15), Or.inr (Or.inr (Or.inl ⟨rfl, (by decide : (0 : Int) ≤ 0), (by decide : (0 : Int) ≤ 15), rfl, rfl, h1, h2⟩))⟩
theorem goodB (v : Bool) (c : Nat) (hc : c ≤ 15) (m : Int) (h1 : -8388608 ≤ m) (h2 : m ≤ 8388607) : (Ins.mk 3 true v c 0 0 0 m).Good := by
  unfold Ins.Good
  exact ⟨(by decide : (0 : Int) ≤ 3), (by decide : (3 : Int) ≤ 3), (by omega : (0 : Int) ≤ c), (by omega : (c : Int) ≤ 15), Or.inr (Or.inr (Or.inr (Or.inr ⟨rfl, rfl, rfl, rfl, rfl, h1, h2⟩)))⟩
theorem echo_run (l : List Nat) (hl : ∀ x ∈ l, x < 256) (s : St) (h0 : s.R 0 = 0) (hp : s.pc = 0) (hf : s.fin = 0) (hm : s.mem = []) (hi : s.inp = l) : (run cEcho (5 * l.length + 3) s).out = s.out ++ l ∧ (run cEcho (5 * l.length + 3) s).fin = 1 := by
  induction l generalizing s with
  | nil =>
    have e1 := exec_isEnd h0 hm
    rw [hi] at e1
    obtain ⟨s1, hs1⟩ : ∃ s1, next (setR s 1 1) = s1 := ⟨_, rfl⟩
    have e1' : exec s ⟨2, false, false, 1, 0, 0, 0, -60⟩ = some s1 := by rw [← hs1]; exact e1
    have p1 : s1.pc = 1 := by rw [← hs1]; show s.pc + 1 = 1; rw [hp]
    have f1 : s1.fin = 0 := by rw [← hs1]; exact hf
    have o1 : s1.out = s.out := by rw [← hs1]; rfl
    have z1 : holds s1 9 = true := by rw [← hs1]; rfl
    have e2 := exec_jump (s := s1) 9 z1 3 5 (by rw [p1]; rfl) (by decide)
    show (run cEcho 3 s).out = _ ∧ (run cEcho 3 s).fin = 1
    rw [run_at 2 hf (by rw [hp]; rfl) (goodM _ _ _ (by decide) (by decide)) e1', run_at 1 f1 (by rw [p1]; rfl) (goodB _ 9 (by decide) _ (by decide) (by decide)) e2, run_end (s := { s1 with pc := 5 }) 0 f1 rfl]
    exact ⟨by rw [List.append_nil]; exact o1, rfl⟩
  | cons c t ih =>
    have hc : c % 256 = c := Nat.mod_eq_of_lt (hl c List.mem_cons_self)
    have e1 := exec_isEnd h0 hm
    rw [hi] at e1
    obtain ⟨s1, hs1⟩ : ∃ s1, next (setR s 1 0) = s1 := ⟨_, rfl⟩
    have e1' : exec s ⟨2, false, false, 1, 0, 0, 0, -60⟩ = some s1 := by rw [← hs1]; exact e1
    have p1 : s1.pc = 1 := by rw [← hs1]; show s.pc + 1 = 1; rw [hp]
    have f1 : s1.fin = 0 := by rw [← hs1]; exact hf
    have z1 : holds s1 9 = false := by rw [← hs1]; rfl
    have e2 := exec_stay (s := s1) 9 z1 true false 0 0 0 3
    obtain ⟨s2, hs2⟩ : ∃ s2, ({ s1 with pc := s1.pc + 1 } : St) = s2 := ⟨_, rfl⟩
    rw [hs2] at e2
    have p2 : s2.pc = 2 := by rw [← hs2]; show s1.pc + 1 = 2; rw [p1]
    have f2 : s2.fin = 0 := by rw [← hs2]; exact f1
    have r2 : s2.R 0 = 0 := by rw [← hs2, ← hs1]; exact h0
    have m2 : s2.mem = [] := by rw [← hs2, ← hs1]; exact hm
    have i2 : s2.inp = c :: t := by rw [← hs2, ← hs1]; exact hi
    have o2 : s2.out = s.out := by rw [← hs2, ← hs1]; rfl
    have e3 := exec_byte r2 m2
    rw [i2] at e3
    obtain ⟨s3, hs3⟩ : ∃ s3, next (setR { s2 with inp := (c :: t).drop 1 } 1 ((c :: t).getD 0 0)) = s3 := ⟨_, rfl⟩
    rw [hs3] at e3
    have p3 : s3.pc = 3 := by rw [← hs3]; show s2.pc + 1 = 3; rw [p2]
    have f3 : s3.fin = 0 := by rw [← hs3]; exact f2
    have r3 : s3.R 0 = 0 := by rw [← hs3]; exact r2
    have q3 : s3.R 1 = c := by rw [← hs3]; rfl
    have m3 : s3.mem = [] := by rw [← hs3]; exact m2
    have i3 : s3.inp = t := by rw [← hs3]; rfl
    have o3 : s3.out = s.out := by rw [← hs3]; exact o2
    have e4 := exec_put r3 m3
    rw [q3, hc] at e4
    obtain ⟨s4, hs4⟩ : ∃ s4, next { s3 with out := s3.out ++ [c] } = s4 := ⟨_, rfl⟩
    rw [hs4] at e4
    have p4 : s4.pc = 4 := by rw [← hs4]; show s3.pc + 1 = 4; rw [p3]
    have f4 : s4.fin = 0 := by rw [← hs4]; exact f3
    have e5 := exec_jump (s := s4) 7 (holds_7 s4) (-5) 0 (by rw [p4]; rfl) (by decide)
    have hL : 5 * (c :: t).length + 3 = 5 * t.length + 3 + 1 + 1 + 1 + 1 + 1 := by simp only [List.length_cons]; omega
    rw [hL, run_at _ hf (by rw [hp]; rfl) (goodM _ _ _ (by decide) (by decide)) e1', run_at _ f1 (by rw [p1]; rfl) (goodB _ 9 (by decide) _ (by decide) (by decide)) e2, run_at _ f2 (by rw [p2]; rfl) (goodM _ _ _ (by decide) (by decide)) e3,
      run_at _ f3 (by rw [p3]; rfl) (goodM _ _ _ (by decide) (by decide)) e4, run_at _ f4 (by rw [p4]; rfl) (goodB _ 7 (by decide) _ (by decide) (by decide)) e5]
    obtain ⟨r1, r2⟩ := ih (fun x hx => hl x (List.mem_cons_of_mem _ hx)) { s4 with pc := 0 } (by rw [← hs4]; exact r3) rfl f4 (by rw [← hs4]; exact m3) (by rw [← hs4]; exact i3)
    refine ⟨r1.trans ?_, r2⟩
    show s4.out ++ t = _
    rw [← hs4]
    show s3.out ++ [c] ++ t = _
    rw [o3, List.append_assoc]; rfl
end Go.Proofs.Ythimhbfglgnohaa.M

/- What the machine does with the codes of the laws, as mathematics: flags, branches, calls, places. No Go program is imported. -/
namespace Go.Proofs.Ythimhbfglgnohaa.M
open Go.RowKit

/-- The highest half of a word is moved. -/
theorem exec_high (s : St) (r q : Nat) (m : Nat) (hm : m ≤ 65535) : exec s ⟨1, true, false, r, q, 0, 0, m⟩ = some (next (setR s r (m * 65536))) := by
  have e : U (m : Int) = m := U_nat m (by omega)
  have e2 : m * 65536 % 4294967296 = m * 65536 := Nat.mod_eq_of_lt (by omega)
  unfold exec M.reckon alu
  simp [e, e2]
theorem or_low (h l : Nat) (hl : l < 65536) : h * 65536 ||| l = h * 65536 + l := by
  have := Nat.shiftLeft_add_eq_or_of_lt (i := 16) (show l < 2 ^ 16 from hl) h
  rw [Nat.shiftLeft_eq] at this
  exact this.symm
theorem exec_low (s : St) (r : Nat) (h m : Nat) (hm : m ≤ 65535) (hr : s.R r = h * 65536) : exec s ⟨1, false, false, r, r, 0, 6, m⟩ = some (next (setR s r (h * 65536 + m))) := by
  have e : U (m : Int) = m := U_nat m (by omega)
  unfold exec M.reckon alu opnd
  simp [e, hr, or_low h m (by omega)]
/-- A number is moved. -/
theorem exec_mov (s : St) (r m : Nat) (hm : m ≤ 65535) : exec s ⟨1, false, false, r, 0, 0, 0, m⟩ = some (next (setR s r m)) := by
  have e : U (m : Int) = m := U_nat m (by omega)
  unfold exec M.reckon alu opnd
  simp [e]
theorem exec_movV (s : St) (r : Nat) (m : Int) : exec s ⟨1, false, true, r, 0, 0, 0, m⟩ = some (next (setR s r (U (m - 65536)))) := by
  unfold exec M.reckon alu opnd
  simp
theorem exec_add (s : St) (r a b : Nat) : exec s ⟨0, false, false, r, a, b, 8, 0⟩ = some (next (setR { s with c := decide (4294967296 ≤ s.R a + s.R b), v := decide (S (s.R a) + S (s.R b) ≠ wrap32 (S (s.R a) + S (s.R b))) } r ((s.R a + s.R b) % 4294967296))) := by
  unfold exec M.reckon alu opnd cin
  simp
theorem exec_sub (s : St) (r a b : Nat) : exec s ⟨0, false, false, r, a, b, 9, 0⟩ = some (next (setR { s with c := decide (s.R a < s.R b), v := decide (S (s.R a) - S (s.R b) ≠ wrap32 (S (s.R a) - S (s.R b))) } r (U ((s.R a : Int) - (s.R b : Int))))) := by
  unfold exec M.reckon alu opnd cin
  simp

/-- The code that reckons a sum and a difference. -/
def cFlags (a b : Nat) : List Nat :=
  [enc ⟨1, true, false, 1, 0, 0, 0, (a / 65536 : Nat)⟩, enc ⟨1, false, false, 1, 1, 0, 6, (a % 65536 : Nat)⟩, enc ⟨1, true, false, 2, 0, 0, 0, (b / 65536 : Nat)⟩, enc ⟨1, false, false, 2, 2, 0, 6, (b % 65536 : Nat)⟩,
    enc ⟨0, false, false, 3, 1, 2, 8, 0⟩, enc ⟨0, false, false, 4, 1, 2, 9, 0⟩]
theorem good1 (u v : Bool) (a b o : Nat) (m : Nat) (ha : a ≤ 15) (hb : b ≤ 15) (ho : o ≤ 15) (hm : m ≤ 65535) : (Ins.mk 1 u v a b 0 o m).Good := by
  unfold Ins.Good
  refine ⟨(by decide : (0 : Int) ≤ 1), (by decide : (1 : Int) ≤ 3), (by omega : (0 : Int) ≤ a), (by omega : (a : Int) ≤ 15), Or.inr (Or.inl ⟨rfl, (by omega : (0 : Int) ≤ b), (by omega : (b : Int) ≤ 15), (by omega : (0 : Int) ≤ o), (by omega : (o : Int) ≤ 15), rfl, (by omega : (0 : Int) ≤ m), (by omega : (m : Int) ≤ 65535)⟩)⟩
theorem good0 (u v : Bool) (a b c o : Nat) (ha : a ≤ 15) (hb : b ≤ 15) (hc : c ≤ 15) (ho : o ≤ 15) : (Ins.mk 0 u v a b c o 0).Good := by
  unfold Ins.Good
  refine ⟨(by decide : (0 : Int) ≤ 0), (by decide : (0 : Int) ≤ 3), (by omega : (0 : Int) ≤ a), (by omega : (a : Int) ≤ 15), Or.inl ⟨rfl, (by omega : (0 : Int) ≤ b), (by omega : (b : Int) ≤ 15), (by omega : (0 : Int) ≤ o), (by omega : (o : Int) ≤ 15), (by omega : (0 : Int) ≤ c), (by omega : (c : Int) ≤ 15), rfl⟩⟩
theorem dm (a : Nat) : a / 65536 * 65536 + a % 65536 = a := Nat.div_add_mod' a 65536
theorem high_le {a : Nat} (h : a < 4294967296) : a / 65536 ≤ 65535 := Nat.le_of_lt_succ (Nat.div_lt_of_lt_mul h)
theorem low_le (a : Nat) : a % 65536 ≤ 65535 := Nat.le_of_lt_succ (Nat.mod_lt a (by decide))
def fl1 (a : Nat) : St := next (setR (s0 0 []) 1 (a / 65536 * 65536))
def fl2 (a : Nat) : St := next (setR (fl1 a) 1 (a / 65536 * 65536 + a % 65536))
def fl3 (a b : Nat) : St := next (setR (fl2 a) 2 (b / 65536 * 65536))
def fl4 (a b : Nat) : St := next (setR (fl3 a b) 2 (b / 65536 * 65536 + b % 65536))
def fl5 (a b : Nat) : St := next (setR { fl4 a b with c := decide (4294967296 ≤ (fl4 a b).R 1 + (fl4 a b).R 2), v := decide (S ((fl4 a b).R 1) + S ((fl4 a b).R 2) ≠ wrap32 (S ((fl4 a b).R 1) + S ((fl4 a b).R 2))) } 3 (((fl4 a b).R 1 + (fl4 a b).R 2) % 4294967296))
theorem fl4_1 (a b : Nat) : (fl4 a b).R 1 = a := dm a
theorem fl4_2 (a b : Nat) : (fl4 a b).R 2 = b := dm b
theorem fl5_R (a b : Nat) : (fl5 a b).R = upd (fl4 a b).R 3 (((fl4 a b).R 1 + (fl4 a b).R 2) % 4294967296) := by unfold fl5; rfl
theorem fl5_1 (a b : Nat) : (fl5 a b).R 1 = a := by rw [fl5_R, upd_other _ _ (by decide)]; exact fl4_1 a b
theorem fl5_2 (a b : Nat) : (fl5 a b).R 2 = b := by rw [fl5_R, upd_other _ _ (by decide)]; exact fl4_2 a b
set_option maxRecDepth 20000 in
/-- What stands behind the sum. -/
theorem flags_sum (a b : Nat) (ha : a < 4294967296) (hb : b < 4294967296) : ∃ s, run (cFlags a b) 5 (s0 0 []) = s ∧ s.fin = 0 ∧ s.pc = 5 ∧ s.R 1 = a ∧ s.R 2 = b ∧ s.R 3 = (a + b) % 4294967296 ∧ s.n = decide (2147483648 ≤ (a + b) % 4294967296) ∧ s.z = ((a + b) % 4294967296 == 0) ∧
    s.c = decide (4294967296 ≤ a + b) ∧ s.v = decide (S a + S b ≠ wrap32 (S a + S b)) := by
  refine ⟨fl5 a b, ?_, rfl, rfl, fl5_1 a b, fl5_2 a b, ?_, ?_, ?_, ?_, ?_⟩
  · rw [run_at (s := s0 0 []) (s' := fl1 a) 4 rfl rfl (good1 true false 1 0 0 _ (by decide) (by decide) (by decide) (high_le ha)) (exec_high _ 1 0 _ (high_le ha)),
      run_at (s := fl1 a) (s' := fl2 a) 3 rfl rfl (good1 false false 1 1 6 _ (by decide) (by decide) (by decide) (low_le a)) (exec_low _ 1 (a / 65536) _ (low_le a) rfl),
      run_at (s := fl2 a) (s' := fl3 a b) 2 rfl rfl (good1 true false 2 0 0 _ (by decide) (by decide) (by decide) (high_le hb)) (exec_high _ 2 0 _ (high_le hb)),
      run_at (s := fl3 a b) (s' := fl4 a b) 1 rfl rfl (good1 false false 2 2 6 _ (by decide) (by decide) (by decide) (low_le b)) (exec_low _ 2 (b / 65536) _ (low_le b) rfl),
      run_at (s := fl4 a b) (s' := fl5 a b) 0 rfl rfl (good0 false false 3 1 2 8 (by decide) (by decide) (by decide) (by decide)) (exec_add _ 3 1 2)]
    exact rfl
  · show ((fl4 a b).R 1 + (fl4 a b).R 2) % 4294967296 = _
    rw [fl4_1, fl4_2]
  · show decide (2147483648 ≤ ((fl4 a b).R 1 + (fl4 a b).R 2) % 4294967296) = _
    rw [fl4_1, fl4_2]
  · show (((fl4 a b).R 1 + (fl4 a b).R 2) % 4294967296 == 0) = _
    rw [fl4_1, fl4_2]
  · show decide (4294967296 ≤ (fl4 a b).R 1 + (fl4 a b).R 2) = _
    rw [fl4_1, fl4_2]
  · show decide (S ((fl4 a b).R 1) + S ((fl4 a b).R 2) ≠ wrap32 (S ((fl4 a b).R 1) + S ((fl4 a b).R 2))) = _
    rw [fl4_1, fl4_2]
theorem flags_diff (a b : Nat) (s : St) (hf : s.fin = 0) (hp : s.pc = 5) (h1 : s.R 1 = a) (h2 : s.R 2 = b) : ∃ t, step (cFlags a b) s = t ∧ t.R 4 = U ((a : Int) - b) ∧ t.n = decide (2147483648 ≤ U ((a : Int) - b)) ∧ t.z = (U ((a : Int) - b) == 0) ∧
    t.c = decide (a < b) ∧ t.v = decide (S a - S b ≠ wrap32 (S a - S b)) := by
  refine ⟨_, step_at hf (by rw [hp]; rfl) (good0 false false 4 1 2 9 (by decide) (by decide) (by decide) (by decide)) (exec_sub _ 4 1 2), ?_⟩
  rw [h1, h2]
  exact ⟨rfl, rfl, rfl, rfl, rfl⟩

/-- The code that branches. -/
def cBranch (a b : Int) (c : Nat) : List Nat :=
  [enc ⟨1, false, decide (a < 0), 1, 0, 0, 0, (U a % 65536 : Nat)⟩, enc ⟨1, false, decide (b < 0), 2, 0, 0, 0, (U b % 65536 : Nat)⟩, enc ⟨0, false, false, 3, 1, 2, 9, 0⟩,
    enc ⟨3, true, false, c, 0, 0, 0, 1⟩, enc ⟨3, false, true, 7, 0, 12, 0, 1⟩, enc ⟨3, false, true, 7, 0, 12, 0, 2⟩]
theorem exec_small (s : St) (r : Nat) (a : Int) (h1 : -32768 ≤ a) (h2 : a ≤ 32767) : exec s ⟨1, false, decide (a < 0), r, 0, 0, 0, (U a % 65536 : Nat)⟩ = some (next (setR s r (U a))) := by
  by_cases h : a < 0
  · rw [decide_eq_true h, exec_movV]
    have e : U (((U a % 65536 : Nat) : Int) - 65536) = U a := by unfold U; omega
    rw [e]
  · rw [decide_eq_false h, exec_mov _ _ _ (by omega)]
    have e : U a % 65536 = U a := by unfold U; omega
    rw [e]
def wanted (a b : Int) (c : Nat) : Bool :=
  (match c % 8 with
  | 0 => decide (a - b < 0)
  | 1 => decide (a = b)
  | 2 => decide (U a < U b)
  | 3 => false
  | 4 => decide (U a ≤ U b)
  | 5 => decide (a < b)
  | 6 => decide (a ≤ b)
  | _ => true) == decide (c < 8)
def br1 (a : Int) : St := next (setR (s0 0 []) 1 (U a))
def br2 (a b : Int) : St := next (setR (br1 a) 2 (U b))
def br3 (a b : Int) : St := next (setR { br2 a b with c := decide ((br2 a b).R 1 < (br2 a b).R 2), v := decide (S ((br2 a b).R 1) - S ((br2 a b).R 2) ≠ wrap32 (S ((br2 a b).R 1) - S ((br2 a b).R 2))) } 3 (U (((br2 a b).R 1 : Int) - ((br2 a b).R 2 : Int))))
theorem branch_run (a b : Int) (c : Nat) (hc : c < 16) (a1 : -32768 ≤ a) (a2 : a ≤ 32767) (b1 : -32768 ≤ b) (b2 : b ≤ 32767) :
    ∃ s, run (cBranch a b c) 9 (s0 0 []) = s ∧ s.fin = 2 ∧ s.trap = if wanted a b c then 2 else 1 := by
  have hA : ∀ t : Nat, t = 1 ∨ t = 2 → (Ins.mk 3 false true 7 0 12 0 t).Good := fun t ht => by rcases ht with rfl | rfl <;> (unfold Ins.Good; simp)
  have hE : ∀ (t : Nat) (s : St), exec s ⟨3, false, true, 7, 0, 12, 0, t⟩ = some (ended s t) := fun t s => by unfold exec branch; simp [M.holds, cond]
  have hG : (Ins.mk 3 true false c 0 0 0 1).Good := by
    unfold Ins.Good
    exact ⟨(by decide : (0 : Int) ≤ 3), (by decide : (3 : Int) ≤ 3), (by omega : (0 : Int) ≤ c), (by omega : (c : Int) ≤ 15), Or.inr (Or.inr (Or.inr (Or.inr ⟨rfl, rfl, rfl, rfl, rfl, by show (-8388608 : Int) ≤ 1; decide, by show (1 : Int) ≤ 8388607; decide⟩)))⟩
  obtain ⟨s3, e3, f3, p3, n3, z3, c3, v3⟩ : ∃ s, run (cBranch a b c) 9 (s0 0 []) = run (cBranch a b c) 6 s ∧ s.fin = 0 ∧ s.pc = 3 ∧ s.n = decide (2147483648 ≤ U ((U a : Int) - U b)) ∧ s.z = (U ((U a : Int) - U b) == 0) ∧ s.c = decide (U a < U b) ∧ s.v = decide (S (U a) - S (U b) ≠ wrap32 (S (U a) - S (U b))) := by
    refine ⟨br3 a b, ?_, rfl, rfl, rfl, rfl, rfl, rfl⟩
    rw [run_at (s := s0 0 []) (s' := br1 a) 8 rfl rfl (good1 false _ 1 0 0 _ (by decide) (by decide) (by decide) (low_le _)) (exec_small _ 1 a a1 a2),
      run_at (s := br1 a) (s' := br2 a b) 7 rfl rfl (good1 false _ 2 0 0 _ (by decide) (by decide) (by decide) (low_le _)) (exec_small _ 2 b b1 b2),
      run_at (s := br2 a b) (s' := br3 a b) 6 rfl rfl (good0 false false 3 1 2 9 (by decide) (by decide) (by decide) (by decide)) (exec_sub _ 3 1 2)]
  have hz : s3.z = decide (a = b) := by
    rw [z3, Bool.eq_iff_iff, beq_iff_eq, decide_eq_true_iff]; unfold U; omega
  have hn : s3.n = decide (a < b) := by
    rw [n3, decide_eq_decide]; unfold U; omega
  have hv : s3.v = false := by
    rw [v3, S_U a (by unfold I32; omega), S_U b (by unfold I32; omega), w32_in _ (by unfold I32; omega)]; simp
  have hh : holds s3 c = wanted a b c := by
    unfold M.holds wanted cond
    rw [hn, hz, c3, hv]
    rcases (show c % 8 = 0 ∨ c % 8 = 1 ∨ c % 8 = 2 ∨ c % 8 = 3 ∨ c % 8 = 4 ∨ c % 8 = 5 ∨ c % 8 = 6 ∨ c % 8 = 7 by omega) with h | h | h | h | h | h | h | h <;> rw [h] <;> refine congrArg (fun x => x == decide (c < 8)) ?_ <;> simp only
    · rw [decide_eq_decide]; omega
    · rw [Bool.eq_iff_iff]
      simp only [Bool.or_eq_true, decide_eq_true_eq]
      unfold U; omega
    · simp
    · rw [Bool.eq_iff_iff]
      simp
      omega
  by_cases hw : wanted a b c = true
  · have e4 : exec s3 ⟨3, true, false, c, 0, 0, 0, 1⟩ = some { s3 with pc := 5 } := by
      unfold exec branch
      simp [hh, hw, target, p3]
    refine ⟨_, e3, ?_⟩
    rw [run_at 5 f3 (by rw [p3]; rfl) hG e4, run_at (s := { s3 with pc := 5 }) (i := ⟨3, false, true, 7, 0, 12, 0, ((2 : Nat) : Int)⟩) 4 f3 rfl (hA 2 (Or.inr rfl)) (hE 2 _), run_fin _ _ _ (by show (2 : Nat) ≠ 0; decide), if_pos hw]
    exact ⟨rfl, rfl⟩
  · have e4 : exec s3 ⟨3, true, false, c, 0, 0, 0, 1⟩ = some { s3 with pc := 4 } := by
      unfold exec branch
      simp [hh, hw, p3]
    refine ⟨_, e3, ?_⟩
    rw [run_at 5 f3 (by rw [p3]; rfl) hG e4, run_at (s := { s3 with pc := 4 }) (i := ⟨3, false, true, 7, 0, 12, 0, ((1 : Nat) : Int)⟩) 4 f3 rfl (hA 1 (Or.inl rfl)) (hE 1 _), run_fin _ _ _ (by show (2 : Nat) ≠ 0; decide), if_neg hw]
    exact ⟨rfl, rfl⟩

/-- The code that calls. -/
def cCalls (n k : Nat) : List Nat :=
  enc ⟨3, true, true, 7, 0, 0, 0, (k + 1 : Nat)⟩ :: enc iEnd :: (List.replicate k (enc ⟨3, false, true, 7, 0, 12, 0, 9⟩) ++ [enc ⟨1, false, false, 5, 0, 0, 0, n⟩, enc ⟨3, false, false, 7, 0, 15, 0, 0⟩])
theorem calls_run (n k : Nat) (hn : n ≤ 255) (hk : k < 20) : ∃ s, run (cCalls n k) 10 (s0 0 []) = s ∧ s.fin = 1 ∧ s.trap = 0 ∧ s.pc = 1 ∧ s.R 5 = n ∧ s.R 15 = 1 ∧ s.out = [] := by
  have h2 : (cCalls n k)[k + 2]? = some (enc ⟨1, false, false, 5, 0, 0, 0, n⟩) := by
    unfold cCalls
    rw [List.getElem?_cons_succ, List.getElem?_cons_succ, List.getElem?_append_right (by simp)]
    simp
  have h3 : (cCalls n k)[k + 3]? = some (enc ⟨3, false, false, 7, 0, 15, 0, 0⟩) := by
    unfold cCalls
    rw [List.getElem?_cons_succ, List.getElem?_cons_succ, List.getElem?_append_right (by simp)]
    simp
  have hG : (Ins.mk 3 true true 7 0 0 0 (k + 1 : Nat)).Good := by
    unfold Ins.Good
    exact ⟨(by decide : (0 : Int) ≤ 3), (by decide : (3 : Int) ≤ 3), (by decide : (0 : Int) ≤ 7), (by decide : (7 : Int) ≤ 15), Or.inr (Or.inr (Or.inr (Or.inr ⟨rfl, rfl, rfl, rfl, rfl, by show (-8388608 : Int) ≤ (k + 1 : Nat); omega, by show ((k + 1 : Nat) : Int) ≤ 8388607; omega⟩)))⟩
  have e1 : exec (s0 0 []) ⟨3, true, true, 7, 0, 0, 0, (k + 1 : Nat)⟩ = some { s0 0 [] with R := upd (fun _ => 0) 15 1, pc := k + 2 } := by
    have h1 : target (s0 0 []) ⟨3, true, true, 7, 0, 0, 0, (k + 1 : Nat)⟩ = (k + 2 : Nat) := by
      show ((0 : Nat) : Int) + 1 + ((k + 1 : Nat) : Int) = _
      omega
    unfold exec branch
    rw [if_pos rfl, if_neg (by show ¬ (true = false); decide), if_neg (by intro h; cases h.1), h1, if_neg (by omega)]
    rfl
  obtain ⟨t1, ht1⟩ : ∃ t1, ({ s0 0 [] with R := upd (fun _ => 0) 15 1, pc := k + 2 } : St) = t1 := ⟨_, rfl⟩
  rw [ht1] at e1
  have q1 : t1.pc = k + 2 := by rw [← ht1]
  have q2 : t1.fin = 0 := by rw [← ht1]; rfl
  obtain ⟨t2, ht2⟩ : ∃ t2, next (setR t1 5 n) = t2 := ⟨_, rfl⟩
  have e2 := exec_mov t1 5 n (by omega)
  rw [ht2] at e2
  have q3 : t2.pc = k + 3 := by rw [← ht2]; show t1.pc + 1 = _; rw [q1]
  have q4 : t2.fin = 0 := by rw [← ht2]; exact q2
  have q5 : t2.R 15 = 1 := by rw [← ht2, ← ht1]; rfl
  have q6 : t2.R 5 = n := by rw [← ht2]; rfl
  have q7 : t2.out = [] := by rw [← ht2, ← ht1]; rfl
  have q8 : t2.trap = 0 := by rw [← ht2, ← ht1]; rfl
  refine ⟨_, rfl, ?_⟩
  rw [run_at 9 rfl rfl hG e1, run_at 8 q2 (by rw [q1]; exact h2) (good1 false false 5 0 0 n (by decide) (by decide) (by decide) (by omega)) e2]
  have e3 : ∀ s : St, s.R 15 = 1 → exec s ⟨3, false, false, 7, 0, 15, 0, 0⟩ = some { s with pc := 1 } := fun s h => by
    unfold exec branch
    simp [M.holds, cond, target, h]
  rw [run_at 7 q4 (by rw [q3]; exact h3) (by unfold Ins.Good; simp) (e3 _ q5), run_end (s := { t2 with pc := 1 }) 6 q4 rfl]
  exact ⟨rfl, rfl, rfl, q6, q5, q7⟩

/-- The code that goes to a place. -/
def cInside (p v : Nat) (st : Bool) : List Nat :=
  [enc ⟨1, true, false, 2, 0, 0, 0, (p / 65536 : Nat)⟩, enc ⟨1, false, false, 2, 2, 0, 6, (p % 65536 : Nat)⟩, enc ⟨1, false, false, 3, 0, 0, 0, v⟩, enc ⟨2, st, false, 3, 2, 0, 0, 0⟩, enc iEnd]
def in1 (p n : Nat) : St := next (setR (s0 n [9]) 2 (p / 65536 * 65536))
def in2 (p n : Nat) : St := next (setR (in1 p n) 2 (p / 65536 * 65536 + p % 65536))
def in3 (p n v : Nat) : St := next (setR (in2 p n) 3 v)
theorem inside_run (p n v : Nat) (st : Bool) (hp : p < 4294967296) (hn : n < 256) (hv : v < 65536) : ∃ s, run (cInside p v st) 9 (s0 n [9]) = s ∧
    (if p = 4294967232 ∨ p = 4294967236 ∧ st = false then s.fin = 1
     else if p % 4 ≠ 0 ∨ n ≤ p / 4 then s.fin = 2 ∧ s.trap = 15 ∧ s.out = []
     else s.fin = 1 ∧ s.mem.length = n ∧ s.mem[p / 4]? = some (if st then v else 0)) := by
  have hG : (Ins.mk 2 st false 3 2 0 0 0).Good := by unfold Ins.Good; simp
  obtain ⟨s3, e3, f3, p3, r2, r3, m3, i3, o3⟩ : ∃ s, run (cInside p v st) 9 (s0 n [9]) = run (cInside p v st) 6 s ∧ s.fin = 0 ∧ s.pc = 3 ∧ s.R 2 = p ∧ s.R 3 = v ∧ s.mem = List.replicate n 0 ∧ s.inp = [9] ∧ s.out = [] := by
    refine ⟨in3 p n v, ?_, rfl, rfl, dm p, rfl, rfl, rfl, rfl⟩
    rw [run_at (s := s0 n [9]) (s' := in1 p n) 8 rfl rfl (good1 true false 2 0 0 _ (by decide) (by decide) (by decide) (high_le hp)) (exec_high _ 2 0 _ (high_le hp)),
      run_at (s := in1 p n) (s' := in2 p n) 7 rfl rfl (good1 false false 2 2 6 _ (by decide) (by decide) (by decide) (low_le p)) (exec_low _ 2 (p / 65536) _ (low_le p) rfl),
      run_at (s := in2 p n) (s' := in3 p n v) 6 rfl rfl (good1 false false 3 0 0 _ (by decide) (by decide) (by decide) (by omega)) (exec_mov _ 3 v (by omega))]
  have hpl : place s3 ⟨2, st, false, 3, 2, 0, 0, 0⟩ = p := by
    unfold place
    show (s3.R 2 + U 0) % 4294967296 = p
    rw [r2, show U 0 = 0 from rfl]
    exact Nat.mod_eq_of_lt hp
  have hml : s3.mem.length = n := by rw [m3, List.length_replicate]
  have hat : (cInside p v st)[s3.pc]? = some (enc ⟨2, st, false, 3, 2, 0, 0, 0⟩) := by rw [p3]; rfl
  have hgo : ∀ s', exec s3 ⟨2, st, false, 3, 2, 0, 0, 0⟩ = some s' → s'.fin = 0 → s'.pc = 4 → run (cInside p v st) 9 (s0 n [9]) = ended s' 0 := fun s' e hf hpc => by
    rw [e3, run_at 5 f3 hat hG e, run_end 4 hf (by rw [hpc]; rfl)]
  have hbad : exec s3 ⟨2, st, false, 3, 2, 0, 0, 0⟩ = none → run (cInside p v st) 9 (s0 n [9]) = ended s3 15 := fun e => by
    rw [e3, run_succ, step_bad f3 hat hG e, run_fin _ _ _ (by show (2 : Nat) ≠ 0; decide)]
  have hx : exec s3 ⟨2, st, false, 3, 2, 0, 0, 0⟩ = if st then (M.store s3 ⟨2, st, false, 3, 2, 0, 0, 0⟩).map next else (M.load s3 ⟨2, st, false, 3, 2, 0, 0, 0⟩).map next := by
    unfold exec
    rw [if_neg (by show ¬ ((2 : Int) = 3); decide), if_pos rfl]
  have hnw : p % 4 = 0 ∧ p / 4 < n → ¬ (p = 4294967232 ∨ p = 4294967236 ∧ st = false) := by omega
  cases st with
  | true =>
    rw [if_pos rfl] at hx
    unfold M.store at hx
    rw [if_neg (by decide), hpl, hml] at hx
    by_cases hw : p % 4 = 0 ∧ p / 4 < n
    · rw [if_pos hw] at hx
      refine ⟨_, hgo _ hx f3 (by show s3.pc + 1 = 4; rw [p3]), ?_⟩
      rw [if_neg (hnw hw), if_neg (by omega)]
      refine ⟨rfl, ?_, ?_⟩
      · show (s3.mem.set _ _).length = n
        rw [List.length_set, hml]
      · show (s3.mem.set (p / 4) (s3.R 3))[p / 4]? = some v
        rw [List.getElem?_set_self (by rw [hml]; exact hw.2), r3]
    · rw [if_neg hw] at hx
      by_cases h4 : p = 4294967232
      · rw [if_pos h4] at hx
        refine ⟨_, hgo _ hx f3 (by show s3.pc + 1 = 4; rw [p3]), ?_⟩
        rw [if_pos (Or.inl h4)]
        rfl
      · rw [if_neg h4] at hx
        refine ⟨_, hbad hx, ?_⟩
        rw [if_neg (by simp [h4]), if_pos (by omega)]
        exact ⟨rfl, rfl, o3⟩
  | false =>
    rw [if_neg (by decide)] at hx
    unfold M.load at hx
    rw [if_neg (by decide), hpl, hml] at hx
    by_cases hw : p % 4 = 0 ∧ p / 4 < n
    · rw [if_pos hw] at hx
      refine ⟨_, hgo _ hx f3 (by show s3.pc + 1 = 4; rw [p3]), ?_⟩
      rw [if_neg (hnw hw), if_neg (by omega)]
      refine ⟨rfl, hml, ?_⟩
      show s3.mem[p / 4]? = some 0
      rw [m3, List.getElem?_replicate, if_pos hw.2]
    · rw [if_neg hw] at hx
      by_cases h4 : p = 4294967232
      · rw [if_pos h4] at hx
        refine ⟨_, hgo _ hx f3 (by show s3.pc + 1 = 4; rw [p3]), ?_⟩
        rw [if_pos (Or.inl h4)]
        rfl
      · rw [if_neg h4] at hx
        by_cases h5 : p = 4294967236
        · rw [if_pos h5] at hx
          refine ⟨_, hgo _ hx f3 (by show s3.pc + 1 = 4; rw [p3]), ?_⟩
          rw [if_pos (Or.inr ⟨h5, rfl⟩)]
          rfl
        · rw [if_neg h5] at hx
          refine ⟨_, hbad hx, ?_⟩
          rw [if_neg (by simp [h4, h5]), if_pos (by omega)]
          exact ⟨rfl, rfl, o3⟩
end Go.Proofs.Ythimhbfglgnohaa.M

