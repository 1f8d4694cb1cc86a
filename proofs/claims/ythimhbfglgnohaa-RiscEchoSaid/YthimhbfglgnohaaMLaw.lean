/- What the machine does with the codes of the laws, as mathematics. No Go program is imported. -/
import Derived.Test.YthimhbfglgnohaaMOk
namespace Go.Proofs.Ythimhbfglgnohaa.M
open Go.RowKit

/-- A machine ahead of its first instruction. -/
def s0 (n : Nat) (inp : List Nat) : St := ⟨List.replicate n 0, inp, [], fun _ => 0, 0, false, false, false, false, 0, 0, 0⟩
theorem s0_ok (n : Nat) (inp : List Nat) (hn : n ≤ 1048576) (hi : ∀ x ∈ inp, x < 256) : (s0 n inp).Ok :=
  ⟨fun _ _ => (by decide : 0 < 4294967296), (by decide : 0 < 4294967296), fun x hx => by rw [(List.mem_replicate.1 hx).2]; decide, hi, fun _ hx => absurd hx List.not_mem_nil, Nat.zero_le _, (by show (List.replicate n 0).length ≤ 1048576; simpa using hn), Nat.zero_le _, Nat.zero_le _⟩

theorem doIt_at {code : List Nat} {s : St} {i : Ins} (h : code[s.pc]? = some (enc i)) (hg : i.Good) : doIt code s = exec s i := by
  have hl : s.pc < code.length := (List.getElem?_eq_some_iff.1 h).1
  have hd : code.getD s.pc 0 = enc i := by rw [List.getD_eq_getElem?_getD, h]; rfl
  obtain ⟨e1, e2⟩ := dec_enc i hg
  unfold doIt
  rw [if_pos hl, hd, if_pos e2, e1]
theorem step_at {code : List Nat} {s s' : St} {i : Ins} (hf : s.fin = 0) (h : code[s.pc]? = some (enc i)) (hg : i.Good) (e : exec s i = some s') : step code s = s' := by
  unfold step
  rw [if_neg (by rw [hf]; decide), doIt_at h hg, e]; rfl
theorem step_bad {code : List Nat} {s : St} {i : Ins} (hf : s.fin = 0) (h : code[s.pc]? = some (enc i)) (hg : i.Good) (e : exec s i = none) : step code s = ended s 15 := by
  unfold step
  rw [if_neg (by rw [hf]; decide), doIt_at h hg, e]; rfl
theorem run_at {code : List Nat} {s s' : St} {i : Ins} (k : Nat) (hf : s.fin = 0) (h : code[s.pc]? = some (enc i)) (hg : i.Good) (e : exec s i = some s') : run code (k + 1) s = run code k s' := by
  rw [run_succ, step_at hf h hg e]

/-- The end of a run. -/
def iEnd : Ins := ⟨3, false, true, 7, 0, 12, 0, 0⟩
theorem iEnd_good : iEnd.Good := by unfold Ins.Good iEnd; simp
theorem exec_end (s : St) : exec s iEnd = some (ended s 0) := by
  unfold exec branch iEnd
  simp [M.holds, cond]
theorem run_end {code : List Nat} {s : St} (k : Nat) (hf : s.fin = 0) (h : code[s.pc]? = some (enc iEnd)) : run code (k + 1) s = ended s 0 := by
  rw [run_at k hf h iEnd_good (exec_end s), run_fin]
  exact Nat.one_ne_zero

/-- The number that goes, and ends. -/
def cKnown : List Nat := [enc ⟨1, false, false, 1, 0, 0, 0, 65⟩, enc ⟨2, true, false, 1, 0, 0, 0, -64⟩, enc iEnd]
def sKnown : St := ⟨[0, 0, 0, 0], [], [65], upd (fun _ => 0) 1 65, 0, false, false, false, false, 2, 1, 0⟩
theorem run_known : run cKnown 10 (s0 4 []) = sKnown := by
  rw [run_at (i := ⟨1, false, false, 1, 0, 0, 0, 65⟩) (s' := { s0 4 [] with R := upd (fun _ => 0) 1 65, pc := 1 }) 9 rfl rfl (by unfold Ins.Good; simp) (by rfl)]
  rw [run_at (i := ⟨2, true, false, 1, 0, 0, 0, -64⟩) (s' := { s0 4 [] with R := upd (fun _ => 0) 1 65, pc := 2, out := [65] }) 8 rfl rfl (by unfold Ins.Good; simp) (by rfl)]
  rw [run_end 7 rfl rfl]
  rfl

/-- The loop that reads and writes. -/
def cEcho : List Nat := [enc ⟨2, false, false, 1, 0, 0, 0, -60⟩, enc ⟨3, true, false, 9, 0, 0, 0, 3⟩, enc ⟨2, false, false, 1, 0, 0, 0, -64⟩, enc ⟨2, true, false, 1, 0, 0, 0, -64⟩, enc ⟨3, true, false, 7, 0, 0, 0, -5⟩, enc iEnd]
theorem place0 {s : St} (h : s.R 0 = 0) (u v : Bool) (m : Int) : place s ⟨2, u, v, 1, 0, 0, 0, m⟩ = U m := by
  unfold place
  simp only [Int.toNat_zero, h, Nat.zero_add]
  exact Nat.mod_eq_of_lt (U_lt m)
theorem word0 {s : St} (h : s.mem = []) (p : Nat) : ¬ (p % 4 = 0 ∧ p / 4 < s.mem.length) := by
  rw [h]; exact fun h => absurd h.2 (Nat.not_lt_zero _)
theorem exec_isEnd {s : St} (h : s.R 0 = 0) (hm : s.mem = []) : exec s ⟨2, false, false, 1, 0, 0, 0, -60⟩ = some (next (setR s 1 (if s.inp.length = 0 then 1 else 0))) := by
  have e : U (-60) = 4294967236 := by decide
  unfold exec M.load
  rw [if_neg (by decide), if_pos rfl, place0 h, e, if_neg (by decide), if_neg (by decide), if_neg (word0 hm _), if_neg (by decide), if_pos rfl]
  rfl
theorem exec_byte {s : St} (h : s.R 0 = 0) (hm : s.mem = []) : exec s ⟨2, false, false, 1, 0, 0, 0, -64⟩ = some (next (setR { s with inp := s.inp.drop 1 } 1 (s.inp.getD 0 0))) := by
  have e : U (-64) = 4294967232 := by decide
  unfold exec M.load
  rw [if_neg (by decide), if_pos rfl, place0 h, e, if_neg (by decide), if_neg (by decide), if_neg (word0 hm _), if_pos rfl]
  rfl
theorem exec_put {s : St} (h : s.R 0 = 0) (hm : s.mem = []) : exec s ⟨2, true, false, 1, 0, 0, 0, -64⟩ = some (next { s with out := s.out ++ [s.R 1 % 256] }) := by
  have e : U (-64) = 4294967232 := by decide
  unfold exec M.store
  rw [if_neg (by decide), if_pos rfl, if_pos rfl, place0 h, e, if_neg (by decide), if_neg (word0 hm _), if_pos rfl]
  rfl
theorem exec_jump {s : St} (c : Nat) (hh : holds s c = true) (m : Int) (t : Nat) (ht : (s.pc : Int) + 1 + m = t) (h2 : t ≤ 1048576) : exec s ⟨3, true, false, c, 0, 0, 0, m⟩ = some { s with pc := t } := by
  have e : target s ⟨3, true, false, c, 0, 0, 0, m⟩ = t := ht
  unfold exec M.branch
  rw [if_pos rfl, e, if_neg (by show ¬ holds s ((c : Int).toNat) = false; rw [Int.toNat_natCast, hh]; decide), if_neg (by intro h; cases h.1), if_neg (by omega)]
  rfl
theorem exec_stay {s : St} (c : Nat) (hh : holds s c = false) (u v : Bool) (b o d : Int) (m : Int) : exec s ⟨3, u, v, c, b, d, o, m⟩ = some { s with pc := s.pc + 1 } := by
  unfold exec M.branch
  rw [if_pos rfl, if_pos (by show holds s ((c : Int).toNat) = false; rw [Int.toNat_natCast, hh])]
theorem holds_7 (s : St) : holds s 7 = true := rfl
theorem goodM (u v : Bool) (m : Int) (h1 : -524288 ≤ m) (h2 : m ≤ 524287) : (Ins.mk 2 u v 1 0 0 0 m).Good := by
  unfold Ins.Good
  exact ⟨(by decide : (0 : Int) ≤ 2), (by decide : (2 : Int) ≤ 3), (by decide : (0 : Int) ≤ 1), (by decide : (1 : Int) ≤ 15), Or.inr (Or.inr (Or.inl ⟨rfl, (by decide : (0 : Int) ≤ 0), (by decide : (0 : Int) ≤ 15), rfl, rfl, h1, h2⟩))⟩
theorem goodB (v : Bool) (c : Nat) (hc : c ≤ 15) (m : Int) (h1 : -8388608 ≤ m) (h2 : m ≤ 8388607) : (Ins.mk 3 true v c 0 0 0 m).Good := by
  unfold Ins.Good
  exact ⟨(by decide : (0 : Int) ≤ 3), (by decide : (3 : Int) ≤ 3), (by omega : (0 : Int) ≤ c), (by omega : (c : Int) ≤ 15), Or.inr (Or.inr (Or.inr (Or.inr ⟨rfl, rfl, rfl, rfl, rfl, h1, h2⟩)))⟩
theorem echo_run (l : List Nat) (hl : ∀ x ∈ l, x < 256) (s : St) (h0 : s.R 0 = 0) (hp : s.pc = 0) (hf : s.fin = 0) (hm : s.mem = []) (hi : s.inp = l) : (run cEcho (5 * l.length + 3) s).out = s.out ++ l ∧ (run cEcho (5 * l.length + 3) s).fin = 1 := by
  induction l generalizing s with
  | nil =>
    have e1 := exec_isEnd h0 hm
    rw [hi] at e1
    obtain ⟨s1, hs1⟩ : ∃ s1, next (setR s 1 1) = s1 := ⟨_, rfl⟩
    have e1' : exec s ⟨2, false, false, 1, 0, 0, 0, -60⟩ = some s1 := by rw [← hs1]; exact e1
    have p1 : s1.pc = 1 := by rw [← hs1]; show s.pc + 1 = 1; rw [hp]
    have f1 : s1.fin = 0 := by rw [← hs1]; exact hf
    have o1 : s1.out = s.out := by rw [← hs1]; rfl
    have z1 : holds s1 9 = true := by rw [← hs1]; rfl
    have e2 := exec_jump (s := s1) 9 z1 3 5 (by rw [p1]; rfl) (by decide)
    show (run cEcho 3 s).out = _ ∧ (run cEcho 3 s).fin = 1
    rw [run_at 2 hf (by rw [hp]; rfl) (goodM _ _ _ (by decide) (by decide)) e1', run_at 1 f1 (by rw [p1]; rfl) (goodB _ 9 (by decide) _ (by decide) (by decide)) e2, run_end (s := { s1 with pc := 5 }) 0 f1 rfl]
    exact ⟨by rw [List.append_nil]; exact o1, rfl⟩
  | cons c t ih =>
    have hc : c % 256 = c := Nat.mod_eq_of_lt (hl c List.mem_cons_self)
    have e1 := exec_isEnd h0 hm
    rw [hi] at e1
    obtain ⟨s1, hs1⟩ : ∃ s1, next (setR s 1 0) = s1 := ⟨_, rfl⟩
    have e1' : exec s ⟨2, false, false, 1, 0, 0, 0, -60⟩ = some s1 := by rw [← hs1]; exact e1
    have p1 : s1.pc = 1 := by rw [← hs1]; show s.pc + 1 = 1; rw [hp]
    have f1 : s1.fin = 0 := by rw [← hs1]; exact hf
    have z1 : holds s1 9 = false := by rw [← hs1]; rfl
    have e2 := exec_stay (s := s1) 9 z1 true false 0 0 0 3
    obtain ⟨s2, hs2⟩ : ∃ s2, ({ s1 with pc := s1.pc + 1 } : St) = s2 := ⟨_, rfl⟩
    rw [hs2] at e2
    have p2 : s2.pc = 2 := by rw [← hs2]; show s1.pc + 1 = 2; rw [p1]
    have f2 : s2.fin = 0 := by rw [← hs2]; exact f1
    have r2 : s2.R 0 = 0 := by rw [← hs2, ← hs1]; exact h0
    have m2 : s2.mem = [] := by rw [← hs2, ← hs1]; exact hm
    have i2 : s2.inp = c :: t := by rw [← hs2, ← hs1]; exact hi
    have o2 : s2.out = s.out := by rw [← hs2, ← hs1]; rfl
    have e3 := exec_byte r2 m2
    rw [i2] at e3
    obtain ⟨s3, hs3⟩ : ∃ s3, next (setR { s2 with inp := (c :: t).drop 1 } 1 ((c :: t).getD 0 0)) = s3 := ⟨_, rfl⟩
    rw [hs3] at e3
    have p3 : s3.pc = 3 := by rw [← hs3]; show s2.pc + 1 = 3; rw [p2]
    have f3 : s3.fin = 0 := by rw [← hs3]; exact f2
    have r3 : s3.R 0 = 0 := by rw [← hs3]; exact r2
    have q3 : s3.R 1 = c := by rw [← hs3]; rfl
    have m3 : s3.mem = [] := by rw [← hs3]; exact m2
    have i3 : s3.inp = t := by rw [← hs3]; rfl
    have o3 : s3.out = s.out := by rw [← hs3]; exact o2
    have e4 := exec_put r3 m3
    rw [q3, hc] at e4
    obtain ⟨s4, hs4⟩ : ∃ s4, next { s3 with out := s3.out ++ [c] } = s4 := ⟨_, rfl⟩
    rw [hs4] at e4
    have p4 : s4.pc = 4 := by rw [← hs4]; show s3.pc + 1 = 4; rw [p3]
    have f4 : s4.fin = 0 := by rw [← hs4]; exact f3
    have e5 := exec_jump (s := s4) 7 (holds_7 s4) (-5) 0 (by rw [p4]; rfl) (by decide)
    have hL : 5 * (c :: t).length + 3 = 5 * t.length + 3 + 1 + 1 + 1 + 1 + 1 := by simp only [List.length_cons]; omega
    rw [hL, run_at _ hf (by rw [hp]; rfl) (goodM _ _ _ (by decide) (by decide)) e1', run_at _ f1 (by rw [p1]; rfl) (goodB _ 9 (by decide) _ (by decide) (by decide)) e2, run_at _ f2 (by rw [p2]; rfl) (goodM _ _ _ (by decide) (by decide)) e3,
      run_at _ f3 (by rw [p3]; rfl) (goodM _ _ _ (by decide) (by decide)) e4, run_at _ f4 (by rw [p4]; rfl) (goodB _ 7 (by decide) _ (by decide) (by decide)) e5]
    obtain ⟨r1, r2⟩ := ih (fun x hx => hl x (List.mem_cons_of_mem _ hx)) { s4 with pc := 0 } (by rw [← hs4]; exact r3) rfl f4 (by rw [← hs4]; exact m3) (by rw [← hs4]; exact i3)
    refine ⟨r1.trans ?_, r2⟩
    show s4.out ++ t = _
    rw [← hs4]
    show s3.out ++ [c] ++ t = _
    rw [o3, List.append_assoc]; rfl
end Go.Proofs.Ythimhbfglgnohaa.M
