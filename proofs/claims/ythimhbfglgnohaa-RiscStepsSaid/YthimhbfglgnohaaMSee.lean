/- What a machine tells: registers, words, flags, which instruction is next. -/
import Derived.Test.YthimhbfglgnohaaMAt
set_option linter.unusedSimpArgs false
set_option linter.unusedVariables false
namespace Go.Proofs.Ythimhbfglgnohaa
open Go.RowKit M
variable {Q : Nat → Prop}

theorem at_in (b off n cap k : Nat) (v : Value) (w : World) (hk : k < n) (hcap : n ≤ cap) (hmx : n ≤ 1048576) (hc : w.cell? ⟨b, off + k, none⟩ = some v) :
    Calls Try.prog 40 #[.slice (some ⟨b, off, none⟩) n cap, .int .i64 k] w fun e w' => e = .returned (.tuple #[v, .bool true]) ∧ w = w' := by
  have k0 : (0 : Int) ≤ (k : Int) := Int.natCast_nonneg _
  have k1 : (k : Int) < (n : Int) := by omega
  go_enter Try.func40, Try.ntmps40
  go_wp2
  go_ret2
  exact ⟨rfl, rfl⟩
theorem at_out (ao : Option Addr) (n cap : Nat) (k : Int) (w : World) (hk : (n : Int) ≤ k) (hmx : n ≤ 1048576) :
    Calls Try.prog 40 #[.slice ao n cap, .int .i64 k] w fun e w' => e = .returned (.tuple #[.int .u32 0, .bool false]) ∧ w = w' := by
  have k0 : (0 : Int) ≤ k := by omega
  go_enter Try.func40, Try.ntmps40
  go_wp2
  go_ret2
  exact ⟨rfl, rfl⟩

/-- A register. -/
theorem reg_any (mb k : Nat) (cv wv iv ov : Value) (s : St) (w : World) (hB : Blk w mb (icells cv wv iv ov s) 65) (hk : k < 16) :
    Calls Try.prog 26 #[.pointer (some ⟨mb, 0, none⟩), .int .i64 k] w fun e w' => e = .returned (.tuple #[.int .u32 (s.R k), .bool true]) ∧ w = w' := by
  have cR := (hB.cell (4 + k)).trans (icells_reg cv wv iv ov s hk)
  have cA := at_in mb 4 16 16 k _ w hk (by decide) (by decide) cR
  have hlt := hB.lt
  clear hB cR
  go_enter Try.func26, Try.ntmps26
  go_wp2_with fail
  refine cA.mono ?_
  rintro e w1 ⟨rfl, rfl⟩
  clear cA
  go_wp2_with fail
  go_ret2
  exact ⟨rfl, rfl⟩
theorem reg_no (mb : Nat) (cv wv iv ov : Value) (s : St) (w : World) (hB : Blk w mb (icells cv wv iv ov s) 65) :
    Calls Try.prog 26 #[.pointer (some ⟨mb, 0, none⟩), .int .i64 16] w fun e w' => e = .returned (.tuple #[.int .u32 0, .bool false]) ∧ w = w' := by
  have cA := at_out (some ⟨mb, 4, none⟩) 16 16 16 w (by decide) (by decide)
  have hlt := hB.lt
  clear hB
  go_enter Try.func26, Try.ntmps26
  go_wp2_with fail
  refine cA.mono ?_
  rintro e w1 ⟨rfl, rfl⟩
  clear cA
  go_wp2_with fail
  go_ret2
  exact ⟨rfl, rfl⟩
/-- A word. -/
theorem word_any (mb wb : Nat) (ob : Option Nat) (code : List Nat) (k : Nat) (cv iv ov : Value) (s : St) (w : World) (hs : s.Ok) (hM : MAt Q w mb wb ob code s cv iv ov) {x : Nat} (hk : s.mem[k]? = some x) :
    Calls Try.prog 24 #[.pointer (some ⟨mb, 0, none⟩), .int .i64 k] w fun e w' => e = .returned (.tuple #[.int .u32 x, .bool true]) ∧ w = w' := by
  have hl : k < s.mem.length := (List.getElem?_eq_some_iff.1 hk).1
  have c1 : w.cell? ⟨mb, 1, none⟩ = some (.slice (some ⟨wb, 0, none⟩) s.mem.length s.mem.length) := hM.1.cell 1
  have cw : w.cell? ⟨wb, 0 + k, none⟩ = some (.int .u32 (x : Nat)) := by
    rw [Nat.zero_add, hM.2.1.cell k]
    simp [U32s, hk]
  have cA := at_in wb 0 s.mem.length s.mem.length k _ w hl (Nat.le_refl _) hs.len cw
  have hlt := hM.1.lt
  clear hM cw hs hk
  go_enter Try.func24, Try.ntmps24
  go_wp2_with fail
  refine cA.mono ?_
  rintro e w1 ⟨rfl, rfl⟩
  clear cA
  go_wp2_with fail
  go_ret2
  exact ⟨rfl, rfl⟩
theorem word_no (mb wb : Nat) (ob : Option Nat) (code : List Nat) (k : Nat) (cv iv ov : Value) (s : St) (w : World) (hs : s.Ok) (hM : MAt Q w mb wb ob code s cv iv ov) (hk : s.mem.length ≤ k) :
    Calls Try.prog 24 #[.pointer (some ⟨mb, 0, none⟩), .int .i64 k] w fun e w' => e = .returned (.tuple #[.int .u32 0, .bool false]) ∧ w = w' := by
  have c1 : w.cell? ⟨mb, 1, none⟩ = some (.slice (some ⟨wb, 0, none⟩) s.mem.length s.mem.length) := hM.1.cell 1
  have cA := at_out (some ⟨wb, 0, none⟩) s.mem.length s.mem.length k w (by omega) hs.len
  have hlt := hM.1.lt
  clear hM hs hk
  go_enter Try.func24, Try.ntmps24
  go_wp2_with fail
  refine cA.mono ?_
  rintro e w1 ⟨rfl, rfl⟩
  clear cA
  go_wp2_with fail
  go_ret2
  exact ⟨rfl, rfl⟩
theorem results_tmp4 {fn : Func} {t u v x : Tmp} (h : fn.results = #[.tmp t, .tmp u, .tmp v, .tmp x]) (tmps : Array Value) (P : Program) (w : World) :
    (results fn tmps).run P w = .ok (.tuple #[tmps.getD t undef, tmps.getD u undef, tmps.getD v undef, tmps.getD x undef]) w := by
  simp [results, h]
theorem pc_any (mb : Nat) (cv wv iv ov : Value) (s : St) (w : World) (hB : Blk w mb (icells cv wv iv ov s) 65) :
    Calls Try.prog 22 #[.pointer (some ⟨mb, 0, none⟩)] w fun e w' => e = .returned (.int .i64 s.pc) ∧ w = w' := by
  have c25 : w.cell? ⟨mb, 25, none⟩ = some (.int .i64 s.pc) := hB.cell 25
  have hlt := hB.lt
  clear hB
  go_enter Try.func22, Try.ntmps22
  go_wp2
  go_ret
  exact ⟨rfl, rfl⟩
theorem flags_any (mb : Nat) (cv wv iv ov : Value) (s : St) (w : World) (hB : Blk w mb (icells cv wv iv ov s) 65) :
    Calls Try.prog 27 #[.pointer (some ⟨mb, 0, none⟩)] w fun e w' => e = .returned (.tuple #[.bool s.n, .bool s.z, .bool s.c, .bool s.v]) ∧ Only Nil w w' := by
  have c21 : w.cell? ⟨mb, 21, none⟩ = some (.bool s.n) := hB.cell 21
  have c22 : w.cell? ⟨mb, 22, none⟩ = some (.bool s.z) := hB.cell 22
  have c23 : w.cell? ⟨mb, 23, none⟩ = some (.bool s.c) := hB.cell 23
  have c24 : w.cell? ⟨mb, 24, none⟩ = some (.bool s.v) := hB.cell 24
  have hlt := hB.lt
  clear hB
  go_enter Try.func27, Try.ntmps27
  go_wp2_with fail
  go_quiet (fail)
  go_wp2_with fail
  (try simp only [Exit.inBlock, Exit.then])
  refine bodyPost_ret (results_tmp4 rfl _ _ _) rfl ?_
  exact ⟨rfl, by (repeat with_reducible first | exact Only.refl _ _ | refine Only.drewN ?_ _ | refine Only.drew ?_)⟩
end Go.Proofs.Ythimhbfglgnohaa

/- A machine beside what else is written to. -/
namespace Go.Proofs.Ythimhbfglgnohaa
open Go.RowKit M

theorem CRow.less {S T : Nat → Prop} {w : World} {v : Value} {l : List Nat} (h : CRow S w v l) (hs : ∀ k, k < w.heap.size → T k → S k) : CRow T w v l := by
  obtain ⟨b, ao, cap, off, h1, h2, h3, h4, h5, h6⟩ := h
  refine ⟨b, ao, cap, off, h1, h2, h3, h4, h5, fun hl hb => h6 hl (hs b ?_ hb)⟩
  have := h5 0 (.int .u32 (l[0]'hl : Nat)) (by simp [U32s, List.getElem?_eq_getElem hl])
  exact World.block_lt_of_cell? w _ this
theorem BRow.less {S T : Nat → Prop} {w : World} {v : Value} {l : List Nat} (h : BRow S w v l) (hs : ∀ k, k < w.heap.size → T k → S k) : BRow T w v l := by
  obtain ⟨b, ao, cap, off, h1, h2, h3, h4, h5, h6, h7⟩ := h
  refine ⟨b, ao, cap, off, h1, h2, h3, h4, h5, h6, fun hl hb => h7 hl (hs b ?_ hb)⟩
  have := h6 0 (.int .u8 (l[0]'hl : Nat)) (by simp [U8s, List.getElem?_eq_getElem hl])
  exact World.block_lt_of_cell? w _ this
/-- Fewer, or newer, blocks that are not to be touched. -/
theorem MAt.less {Q T : Nat → Prop} {w : World} {mb wb : Nat} {ob : Option Nat} {code : List Nat} {s : St} {cv iv ov : Value} (h : MAt Q w mb wb ob code s cv iv ov) (hs : ∀ k, k < w.heap.size → T k → Q k) : MAt T w mb wb ob code s cv iv ov := by
  obtain ⟨h1, h2, h3, h4, h5, h6, h7, h8, h9⟩ := h
  exact ⟨h1, h2, h3, h4.less (fun k hk hb => hb.imp id (hs k hk)), h5.less (fun k hk hb => hb.imp id (hs k hk)), h6, h7, h8, h9⟩
/-- What is written beside a machine. -/
theorem MAt.apart {Q S : Nat → Prop} {w w' : World} {mb wb : Nat} {ob : Option Nat} {code : List Nat} {s : St} {cv iv ov : Value} (h : MAt Q w mb wb ob code s cv iv ov) (ho : Only S w w') (hm : ¬ S mb) (hw : ¬ S wb) (hb : ∀ k, ob = some k → ¬ S k) (hq : ∀ k, S k → Q k) : MAt Q w' mb wb ob code s cv iv ov := by
  obtain ⟨h1, h2, h3, h4, h5, h6, h7, h8, h9⟩ := h
  exact ⟨h1.kept ho hm, h2.kept ho hw, h3, h4.kept ho (fun k hk => Or.inr (hq k hk)), h5.kept ho (fun k hk => Or.inr (hq k hk)), ownsRow_only h6 ho (fun k hk => hb k (by rw [← h7, hk])), h7, h8, h9⟩
/-- The block of what was written lies in memory. -/
theorem MAt.obLt {Q : Nat → Prop} {w : World} {mb wb : Nat} {ob : Option Nat} {code : List Nat} {s : St} {cv iv ov : Value} (h : MAt Q w mb wb ob code s cv iv ov) {k : Nat} (hk : ob = some k) : k < w.heap.size := by
  have h7 := h.2.2.2.2.2.2.1
  have h6 := h.2.2.2.2.2.1
  rcases h6.2 with ⟨h, _⟩ | ⟨g, cap, cur, hv, _, hg, _⟩
  · rw [h] at h7; rw [← h7] at hk; cases hk
  · rw [hv] at h7
    have : g < w.heap.size := (Array.getElem?_eq_some_iff.1 hg).1
    rw [← h7] at hk; injection hk with hk
    have hk : g = k := hk
    omega
end Go.Proofs.Ythimhbfglgnohaa

