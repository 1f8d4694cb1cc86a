/- The stack machine's state keeps to what it keeps to. -/
import Derived.Test.YtbgmdckfkfkglaaSDo
import Derived.Laws.Closers25b
set_option linter.unusedSimpArgs false
set_option linter.unusedVariables false
namespace Go.Proofs.Ytbgmdckfkfkglaa.M
open Go.RowKit

theorem nil32 : ∀ y ∈ ([] : List Int), I32 y := by intro y hy; cases hy
theorem one32 {x : Int} (h : I32 x) : ∀ y ∈ [x], I32 y := by intro y hy; rw [List.mem_singleton.1 hy]; exact h
theorem two32 {x z : Int} (h : I32 x) (h2 : I32 z) : ∀ y ∈ [x, z], I32 y := by
  intro y hy
  rcases List.mem_cons.1 hy with rfl | hy
  · exact h
  · exact one32 h2 y hy
theorem bits_i32 (op : BinOp) (a b : Int) : I32 (bits op .i32 a b) := by
  have h := bits_within op .i32 a b
  have h1 : IntKind.i32.min = -2147483648 := by decide
  have h2 : IntKind.i32.max = 2147483647 := by decide
  rw [h1, h2] at h
  exact h
theorem shr_i32 (a : Int) (k : Nat) (h : I32 a) : I32 (a / 2 ^ k) := by
  have hp : (1 : Int) ≤ 2 ^ k := by
    have h1 := Nat.pow_pos (n := k) (show 0 < 2 by decide)
    have e : ((2 ^ k : Nat) : Int) = 2 ^ k := by simp
    omega
  exact div_i32 a _ h hp
theorem mod_i32 (a b : Int) (hb : 1 ≤ b) (h : I32 b) : I32 (a % b) := by
  have h1 := Int.emod_nonneg a (show b ≠ 0 by omega)
  have h2 := Int.emod_lt_of_pos a (show 0 < b by omega)
  unfold I32 at *
  omega
theorem reck_i32 {op a b v : Int} (ha : I32 a) (hb : I32 b) (e : reck op a b = some v) : I32 v := by
  unfold reck at e
  by_cases h9 : op = 9
  · rw [if_pos h9] at e
    injection e with e; subst e; exact w32_i32 _
  rw [if_neg h9] at e
  by_cases h10 : op = 10
  · rw [if_pos h10] at e
    injection e with e; subst e; exact w32_i32 _
  rw [if_neg h10] at e
  by_cases h11 : op = 11
  · rw [if_pos h11] at e
    injection e with e; subst e; exact w32_i32 _
  rw [if_neg h11] at e
  by_cases h12 : op = 12
  · rw [if_pos h12] at e
    by_cases hb1 : b < 1
    · rw [if_pos hb1] at e; cases e
    · rw [if_neg hb1] at e; injection e with e; subst e; exact div_i32 _ _ ha (by omega)
  rw [if_neg h12] at e
  by_cases h13 : op = 13
  · rw [if_pos h13] at e
    by_cases hb1 : b < 1
    · rw [if_pos hb1] at e; cases e
    · rw [if_neg hb1] at e; injection e with e; subst e; exact mod_i32 _ _ (by omega) hb
  rw [if_neg h13] at e
  by_cases h15 : op = 15
  · rw [if_pos h15] at e
    injection e with e; subst e; exact bits_i32 _ _ _
  rw [if_neg h15] at e
  by_cases h16 : op = 16
  · rw [if_pos h16] at e
    injection e with e; subst e; exact bits_i32 _ _ _
  rw [if_neg h16] at e
  by_cases h17 : op = 17
  · rw [if_pos h17] at e
    injection e with e; subst e; exact bits_i32 _ _ _
  rw [if_neg h17] at e
  by_cases h19 : op = 19
  · rw [if_pos h19] at e
    injection e with e; subst e; exact w32_i32 _
  rw [if_neg h19] at e
  by_cases h20 : op = 20
  · rw [if_pos h20] at e
    injection e with e; subst e; exact shr_i32 _ _ ha
  rw [if_neg h20] at e
  by_cases h21 : op = 21
  · rw [if_pos h21] at e
    injection e with e; subst e; exact S_i32 _ (rorN_lt _ _ (U_lt _))
  rw [if_neg h21] at e
  by_cases h22 : op = 22
  · rw [if_pos h22] at e
    injection e with e; subst e; exact one_i32 _
  rw [if_neg h22] at e
  by_cases h23 : op = 23
  · rw [if_pos h23] at e
    injection e with e; subst e; exact one_i32 _
  rw [if_neg h23] at e
  by_cases h24 : op = 24
  · rw [if_pos h24] at e
    injection e with e; subst e; exact one_i32 _
  rw [if_neg h24] at e
  cases e

/-- What an instruction keeps, whatever it is. -/
structure Keeps (s t : SS) : Prop where
  ok : t.Ok
  mem : t.mem.length = s.mem.length
  out : t.out.length ≤ s.out.length + 1
theorem puts_k {s t : SS} {n : Nat} {l : List Int} (h : s.Ok) (hl : ∀ x ∈ l, I32 x) (e : puts s n l = some t) : Keeps s t := by
  obtain ⟨_, _, _, h1, h2, _⟩ := puts_keeps e
  exact ⟨puts_ok h hl e, by rw [h1], by rw [h2]; omega⟩
theorem sOne_k {s t : SS} {op : Int} (h : s.Ok) (e : sOne s op = some t) : Keeps s t := by
  have h0 := opd_i32 h 0
  unfold sOne at e
  split at e
  · cases e
  split at e
  · exact puts_k h nil32 e
  split at e
  · exact puts_k h (two32 h0 h0) e
  split at e
  · split at e
    · exact puts_k h (one32 (getD_mem h.mem (by unfold I32; omega) _)) e
    · cases e
  split at e
  · exact puts_k h (one32 (w32_i32 _)) e
  split at e
  · exact puts_k h (one32 (bits_i32 _ _ _)) e
  have hs : ({ s with out := s.out ++ [(opd s 0 % 256).toNat] } : SS).Ok := ⟨h.mem, h.ops, h.inp, fun x hx => by
    rcases List.mem_append.1 hx with hx | hx
    · exact h.out x hx
    · rw [List.mem_singleton.1 hx]; omega, h.len, h.nops, h.ncalls, h.fp, h.top, h.pc1, h.pc2, h.kept, h.fin, h.trap⟩
  have hk := puts_k hs nil32 e
  obtain ⟨_, _, _, h1, h2, _⟩ := puts_keeps e
  exact ⟨hk.ok, by rw [h1], by rw [h2]; simp⟩
theorem mem_ok {s : SS} (h : s.Ok) {m : List Int} (hl : m.length = s.mem.length) (hm : ∀ x ∈ m, I32 x) : ({ s with mem := m } : SS).Ok :=
  ⟨hm, h.ops, h.inp, h.out, by show m.length ≤ _; rw [hl]; exact h.len, h.nops, h.ncalls, by show _ ≤ m.length; rw [hl]; exact h.fp, by show _ ≤ m.length; rw [hl]; exact h.top, h.pc1, h.pc2, fun c hc => ⟨(h.kept c hc).1, by show _ ≤ m.length; rw [hl]; exact (h.kept c hc).2⟩, h.fin, h.trap⟩
theorem moved_i32 {m : List Int} (h : ∀ x ∈ m, I32 x) (p q k : Nat) : ∀ x ∈ moved m p q k, I32 x := by
  intro x hx
  unfold moved at hx
  rcases List.mem_append.1 hx with hx | hx
  · rcases List.mem_append.1 hx with hx | hx
    · exact h x (List.mem_of_mem_take hx)
    · exact h x (List.mem_of_mem_drop (List.mem_of_mem_take hx))
  · exact h x (List.mem_of_mem_drop hx)
theorem cleared_i32 {m : List Int} (h : ∀ x ∈ m, I32 x) (p k : Nat) : ∀ x ∈ cleared m p k, I32 x := by
  intro x hx
  unfold cleared at hx
  rcases List.mem_append.1 hx with hx | hx
  · rcases List.mem_append.1 hx with hx | hx
    · exact h x (List.mem_of_mem_take hx)
    · rw [List.eq_of_mem_replicate hx]; unfold I32; omega
  · exact h x (List.mem_of_mem_drop hx)
theorem memPuts_k {s t : SS} {n : Nat} {m : List Int} (h : s.Ok) (hl : m.length = s.mem.length) (hm : ∀ x ∈ m, I32 x) (e : puts { s with mem := m } n [] = some t) : Keeps s t := by
  have hk := puts_k (mem_ok h hl hm) nil32 e
  obtain ⟨_, _, _, h1, h2, _⟩ := puts_keeps e
  exact ⟨hk.ok, by rw [h1]; exact hl, by rw [h2]; exact Nat.le_succ _⟩
theorem sTwo_k {s t : SS} {c : Cod} (h : s.Ok) (e : sTwo s c = some t) : Keeps s t := by
  have h0 := opd_i32 h 0
  have h1 := opd_i32 h 1
  unfold sTwo at e
  split at e
  · cases e
  split at e
  · exact puts_k h (two32 h0 h1) e
  split at e
  · split at e
    · refine memPuts_k h (List.length_set ..) (fun x hx => ?_) e
      rcases List.mem_or_eq_of_mem_set hx with hx | rfl
      · exact h.mem x hx
      · exact h0
    · cases e
  split at e
  · split at e
    · rename_i g
      exact memPuts_k h (moved_len _ _ _ _ (by omega) (by omega)) (moved_i32 h.mem _ _ _) e
    · cases e
  cases hr : reck c.op (opd s 1) (opd s 0) with
  | none => rw [hr] at e; cases e
  | some v => rw [hr] at e; exact puts_k h (one32 (reck_i32 h1 h0 hr)) (show puts s 2 [v] = some t from e)
theorem sChange_k {s t : SS} {c : Cod} (h : s.Ok) (hk : I32 c.k) (e : sChange s c = some t) : Keeps s t := by
  unfold sChange at e
  split at e
  · exact puts_k h (one32 hk) e
  split at e
  · exact puts_k h (one32 (w32_i32 _)) e
  split at e
  · unfold sEnter at e
    split at e
    · cases e
    · rename_i g
      injection e with e
      have ht := h.top
      have hl : (cleared s.mem s.top c.k.toNat).length = s.mem.length := cleared_len _ _ _ (by omega)
      have hm := mem_ok h hl (cleared_i32 h.mem _ _)
      subst e
      refine ⟨⟨hm.mem, hm.ops, hm.inp, hm.out, hm.len, hm.nops, hm.ncalls, ?_, ?_, hm.pc1, hm.pc2, hm.kept, hm.fin, hm.trap⟩, hl, Nat.le_succ _⟩
      · show s.top ≤ (cleared s.mem s.top c.k.toNat).length
        rw [hl]; exact ht
      · show s.top + c.k.toNat ≤ (cleared s.mem s.top c.k.toNat).length
        rw [hl]; omega
  split at e
  · unfold sGetc at e
    have hb : I32 ((s.inp.getD 0 0 : Nat) : Int) := by
      have : s.inp.getD 0 0 < 256 := by
        rw [List.getD_eq_getElem?_getD]
        cases hx : s.inp[0]? with
        | none => decide
        | some x => exact h.inp x (List.mem_of_getElem? hx)
      unfold I32; omega
    split at e
    · exact puts_k h (one32 (by unfold I32; omega)) e
    · cases hx : puts s 0 [((s.inp.getD 0 0 : Nat) : Int)] with
      | none => rw [hx] at e; cases e
      | some u =>
        rw [hx] at e
        injection e with e
        have hu := puts_k h (one32 hb) hx
        obtain ⟨_, _, _, h1, h2, h3, _⟩ := puts_keeps hx
        subst e
        exact ⟨⟨hu.ok.mem, hu.ok.ops, fun x hx => h.inp x (List.mem_of_mem_drop hx), hu.ok.out, hu.ok.len, hu.ok.nops, hu.ok.ncalls, hu.ok.fp, hu.ok.top, hu.ok.pc1, hu.ok.pc2, hu.ok.kept, hu.ok.fin, hu.ok.trap⟩, hu.mem, hu.out⟩
  split at e
  · exact puts_k h (one32 (one_i32 _)) e
  split at e
  · exact sOne_k h e
  · exact sTwo_k h e
theorem sEnded_ok {s : SS} (h : s.Ok) {t : Nat} (ht : t ≤ 15) : (sEnded s t).Ok :=
  ⟨h.mem, h.ops, h.inp, h.out, h.len, h.nops, h.ncalls, h.fp, h.top, h.pc1, h.pc2, h.kept, by show (if t = 0 then 1 else 2) ≤ 2; split <;> omega, ht⟩
theorem pc_ok {s : SS} (h : s.Ok) {x : Int} (h1 : -2147483648 ≤ x) (h2 : x ≤ 2147483647) : ({ s with pc := x } : SS).Ok :=
  ⟨h.mem, h.ops, h.inp, h.out, h.len, h.nops, h.ncalls, h.fp, h.top, h1, h2, h.kept, h.fin, h.trap⟩
theorem sTurn_k {s t : SS} {c : Cod} (h : s.Ok) (hk : I32 c.k) (hp : 0 ≤ s.pc ∧ s.pc < 2147483647) (e : sTurn s c = some t) : Keeps s t := by
  unfold sTurn at e
  split at e
  · injection e with e; subst e; exact ⟨sEnded_ok h (by decide), rfl, Nat.le_succ _⟩
  split at e
  · split at e
    · cases e
    · injection e with e; subst e; exact ⟨sEnded_ok h (by omega), rfl, Nat.le_succ _⟩
  split at e
  · injection e with e; subst e; exact ⟨pc_ok h hk.1 (by have := hk.2; omega), rfl, Nat.le_succ _⟩
  split at e
  · split at e
    · cases e
    · injection e with e
      subst e
      have hx : ∀ x : Int, -2147483648 ≤ x → x ≤ 2147483647 → ({ s with ops := s.ops.take (s.ops.length - 1), pc := x } : SS).Ok := fun x h1 h2 =>
        ⟨h.mem, fun x hx => h.ops x (List.mem_of_mem_take hx), h.inp, h.out, h.len, by show (s.ops.take (s.ops.length - 1)).length ≤ 1000; have := h.nops; rw [List.length_take]; omega, h.ncalls, h.fp, h.top, h1, h2, h.kept, h.fin, h.trap⟩
      refine ⟨?_, rfl, Nat.le_succ _⟩
      unfold I32 at hk
      exact hx _ (by split <;> omega) (by split <;> omega)
  split at e
  · split at e
    · cases e
    · rename_i g
      injection e with e
      subst e
      unfold I32 at hk
      have hn := h.ncalls
      refine ⟨⟨h.mem, h.ops, h.inp, h.out, h.len, h.nops, by show (s.calls ++ [_]).length ≤ 1000; rw [List.length_append, List.length_singleton]; omega, h.fp, h.top, by show _ ≤ c.k; omega, by show c.k ≤ _; omega, fun x hx => ?_, h.fin, h.trap⟩, rfl, Nat.le_succ _⟩
      rcases List.mem_append.1 hx with hx | hx
      · exact h.kept x hx
      · rw [List.mem_singleton.1 hx]; exact ⟨by show (s.pc + 1).toNat ≤ _; omega, h.fp⟩
  split at e
  · cases e
  · rename_i x hx
    injection e with e
    subst e
    have hm := h.kept x (List.mem_of_getLast? hx)
    have hn := h.ncalls
    exact ⟨⟨h.mem, h.ops, h.inp, h.out, h.len, h.nops, by show s.calls.dropLast.length ≤ 1000; rw [List.length_dropLast]; omega, hm.2, h.fp, by show _ ≤ (x.1 : Int); omega, by show (x.1 : Int) ≤ _; omega, fun y hy => h.kept y (List.dropLast_subset _ hy), h.fin, h.trap⟩, rfl, Nat.le_succ _⟩
theorem sStep_k {code : List Cod} {s : SS} (h : s.Ok) (hc : ∀ c ∈ code, I32 c.k) (hl : code.length ≤ 2147483647) : Keeps s (sStep code s) := by
  have h0 : Keeps s s := ⟨h, rfl, Nat.le_succ _⟩
  unfold sStep
  split
  · exact h0
  cases hd : sDo code s with
  | none => exact ⟨sEnded_ok h (by decide), rfl, Nat.le_succ _⟩
  | some t =>
    show Keeps s t
    unfold sDo at hd
    split at hd
    · rename_i hp
      split at hd
      · have hk : I32 (code.getD s.pc.toNat default).k := by
          have hlt : s.pc.toNat < code.length := by omega
          have e : code[s.pc.toNat]? = some (code.getD s.pc.toNat default) := by simp [List.getD, hlt]
          exact hc _ (List.mem_of_getElem? e)
        unfold sExec at hd
        split at hd
        · exact sTurn_k h hk ⟨hp.1, by omega⟩ hd
        · cases hr : sChange s (code.getD s.pc.toNat default) with
          | none => rw [hr] at hd; cases hd
          | some u =>
            rw [hr] at hd
            injection hd with hd
            have hu := sChange_k h hk hr
            have hpc := sChange_pc hr
            subst hd
            exact ⟨pc_ok hu.ok (by rw [hpc]; omega) (by rw [hpc]; omega), hu.mem, hu.out⟩
      · cases hd
    · cases hd
end Go.Proofs.Ytbgmdckfkfkglaa.M
