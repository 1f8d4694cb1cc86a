/- What is told of a stack machine; the laws' known; the loop that reads and writes. -/
import Derived.Test.YtbgmdckfkfkglaaSNew
import Derived.Test.YtbgmdckfkfkglaaSLaw
set_option linter.unusedSimpArgs false
set_option linter.unusedVariables false
namespace Go.Proofs.Ytbgmdckfkfkglaa.M
open Go.RowKit
theorem ss0_ok (n q : Nat) (B : List Nat) (hn : n ≤ 1048576) (hq : q ≤ n) (hB : ∀ x ∈ B, x < 256) : (ss0 n q B).Ok := by
  have hl : (ss0 n q B).mem.length = n := by show (List.replicate n (0 : Int)).length = n; simp
  exact ⟨fun x hx => by rw [List.eq_of_mem_replicate hx]; unfold I32; omega, nofun, hB, nofun, by rw [hl]; exact hn, Nat.zero_le _, Nat.zero_le _, by rw [hl]; exact hq, by rw [hl]; exact hq, by show (-2147483648 : Int) ≤ 0; decide, by show (0 : Int) ≤ 2147483647; decide, nofun, Nat.zero_le _, Nat.zero_le _⟩
theorem sRun_ok {code : List Cod} {s : SS} (h : s.Ok) (hc : ∀ c ∈ code, I32 c.k) (hl : code.length ≤ 2147483647) : ∀ n, (sRun code n s).Ok ∧ (sRun code n s).mem.length = s.mem.length ∧ (sRun code n s).out.length ≤ s.out.length + n := by
  intro n
  induction n generalizing s with
  | zero => exact ⟨h, rfl, Nat.le_refl _⟩
  | succ n ih =>
    have k := sStep_k h hc hl
    rw [sRun_succ]
    obtain ⟨h1, h2, h3⟩ := ih k.ok
    exact ⟨h1, by rw [h2, k.mem], by have := k.out; omega⟩
end Go.Proofs.Ytbgmdckfkfkglaa.M
namespace Go.Proofs.Ytbgmdckfkfkglaa
open Go.RowKit M
variable {Q : Nat → Prop}

/-- The blocks of a machine that was made since. -/
structure Fr3 (m mb wb : Nat) (sv kv ov : Value) : Prop where
  mb : m ≤ mb
  wb : m ≤ wb
  s : ∀ j, sv.ownBlock = some j → m ≤ j
  k : ∀ j, kv.ownBlock = some j → m ≤ j
  o : ∀ j, ov.ownBlock = some j → m ≤ j
theorem Fr3.new {m mb wb : Nat} (h1 : m ≤ mb) (h2 : m ≤ wb) : Fr3 m mb wb (.slice none 0 0) (.slice none 0 0) (.slice none 0 0) := ⟨h1, h2, nofun, nofun, nofun⟩
theorem Fr3.only {w0 w w' : World} {mb wb : Nat} {sv kv ov sv' kv' ov' : Value} (h : Fr3 w0.heap.size mb wb sv kv ov) (ho : Only Nil w0 w) (g : Gone w w' mb wb sv kv ov sv' kv' ov') : Only Nil w0 w' :=
  ho.trans g.only (fun i hi hS => by
    rcases hS with e | e | e | e | e
    · have := h.mb; omega
    · have := h.wb; omega
    · have := h.s i e.symm; omega
    · have := h.k i e.symm; omega
    · have := h.o i e.symm; omega)
theorem Fr3.gone {m : Nat} {w w' : World} {mb wb : Nat} {sv kv ov sv' kv' ov' : Value} (h : Fr3 m mb wb sv kv ov) (hm : m ≤ w.heap.size) (g : Gone w w' mb wb sv kv ov sv' kv' ov') : Fr3 m mb wb sv' kv' ov' := by
  have f : ∀ {x y : Option Nat}, (y = x ∨ ∃ k, y = some k ∧ w.heap.size ≤ k) → (∀ j, x = some j → m ≤ j) → ∀ j, y = some j → m ≤ j := by
    intro x y h1 h2 j e
    rcases h1 with h1 | ⟨k, h1, h3⟩
    · exact h2 j (by rw [← h1, e])
    · rw [h1] at e; injection e with e; omega
  exact ⟨h.mb, h.wb, f g.s h.s, f g.k h.k, f g.o h.o⟩

set_option maxHeartbeats 800000 in
/-- The operands are told, in new memory. -/
theorem operandsS_any (mb wb : Nat) (code : List Cod) (s : SS) (cv sv kv iv ov : Value) (w : World) (hM : SAt Q w mb wb code s cv sv kv iv ov) (hol : s.ops.length ≤ 1000) :
    Calls Try.prog 30 #[.pointer (some ⟨mb, 0, none⟩)] w fun e w' => ∃ v, e = .returned v ∧ w'.ownsRow w.heap.size 21 1 v s.ops.length (I32s s.ops) ∧ Only Nil w w' := by
  obtain ⟨i0, hi0, hz0, hz1, hz2⟩ := info_parts Try.info21
  have c2 : w.cell? ⟨mb, 2, none⟩ = some sv := hM.blk.cell 2
  have hlt := hM.blk.lt
  have hsrc := Src.of_own hM.ops
  obtain ⟨sb, hsb⟩ : ∃ sb, sv.ownBlock.getD 0 = sb := ⟨_, rfl⟩
  rw [hsb] at hsrc
  obtain ⟨U, hU⟩ : ∃ U, I32s s.ops = U := ⟨_, rfl⟩
  have hUl : U.length = s.ops.length := by rw [← hU, I32s_len]
  have hU1 : ∀ u ∈ U, u.oneCell' = true := by rw [← hU]; exact I32s_one _
  rw [hU] at hsrc ⊢
  obtain ⟨n, hn⟩ : ∃ n, s.ops.length = n := ⟨_, rfl⟩
  rw [hn] at hol hUl ⊢
  have HL := Lib.hid hUl
  have HS := Lib.hid hsrc
  have HU1 := Lib.hid hU1
  clear hM hU hUl hsrc hU1 hn hsb
  go_enter Try.func30, Try.ntmps30
  go_wp2_with (at_builtin; refine wpList_append_src rfl _ _ 50 rfl w.heap.size 21 i0 (.int .i32 0) 4 Try.underlying50 hi0 hz0 hz1 hz2 rfl _ _ _ rfl (World.ownsRow_nil _ _ _ _) sb _ U rfl HS.out HU1.out ?c1 ?c2 ?c3 ?_)
  case c1 => rw [HL.out]; simp [maxLen]; omega
  case c2 => rw [HL.out]; omega
  case c3 => exact Nat.le_refl _
  intro v' w' hown hob ho
  have hown2 := hown
  rw [HL.out] at hown2
  obtain ⟨a, c, rfl⟩ := sl_of_own hown2
  go_wp2_with fail
  go_ret
  exact ⟨_, rfl, hown2, ho.mono (fun _ h => by cases h)⟩
end Go.Proofs.Ytbgmdckfkfkglaa
