/- The stack machine: operations on operands. -/
import Derived.Test.YtpnhjjihdcopnaaSOps
import Derived.Test.YtpnhjjihdcopnaaACalls
import Derived.Deep.RegionWith
set_option linter.unusedSimpArgs false
set_option linter.unusedVariables false
namespace Go.Proofs.Ytpnhjjihdcopnaa
open Go.RowKit M
variable {Q : Nat → Prop}

theorem srcI_new (w : World) (l : List Int) (n : Nat) (hn : l.length = n) (t : TypeId) : Src (w.alloc (.cells (I32s l).toArray t)) w.heap.size (.slice (some ⟨w.heap.size, 0, none⟩) n n) (I32s l) := by
  have hB := Blk.new w (I32s l).toArray t
  subst hn
  exact ⟨_, l.length, 0, by rw [I32s_len], fun _ => rfl, nofun, fun i u hi => by rw [Nat.zero_add, hB.cell i]; simpa using hi⟩
theorem srcI_nil (w : World) : Src w 0 (.slice none 0 0) (I32s []) := ⟨none, 0, 0, rfl, fun h => by simp [I32s] at h, fun _ => rfl, fun i u h => by simp [I32s] at h⟩

/-- Operands are left, nothing else is done. -/
def LDoes (Q : Nat → Prop) (w : World) (mb wb : Nat) (code : List Cod) (s : SS) (cv sv kv iv ov : Value) (X : Option SS) (e : Ending) (w' : World) : Prop :=
  ∃ sv', e = .returned (.bool X.isSome) ∧ Gone w w' mb wb sv kv ov sv' kv ov ∧ SAt Q w' mb wb code (X.getD s) cv sv' kv iv ov
theorem LDoes.does {w w' : World} {mb wb : Nat} {code : List Cod} {s : SS} {cv sv kv iv ov : Value} {X : Option SS} {e : Ending} (h : LDoes Q w mb wb code s cv sv kv iv ov X e w') : SDoes Q w mb wb code s cv sv kv iv ov X e w' := by
  obtain ⟨sv', h1, h2, h3⟩ := h
  exact ⟨sv', kv, iv, ov, h1, h2, h3⟩
/-- What is left of no, one, two operands. -/
theorem leave0 (mb wb n : Nat) (code : List Cod) (s : SS) (cv sv kv iv ov : Value) (w : World) (hM : SAt Q w mb wb code s cv sv kv iv ov) (hl : s.ops.length ≤ 1000) (hn : n ≤ s.ops.length) :
    Calls Try.prog 59 #[.pointer (some ⟨mb, 0, none⟩), .int .i64 n, .slice none 0 0] w (LDoes Q w mb wb code s cv sv kv iv ov (puts s n [])) :=
  (leaves_any mb wb n 0 [] _ code s cv sv kv iv ov w hM hl hn (srcI_nil w) (by simp) (fun h => by simp at h)).mono fun e w' ⟨sv', he, h1, h2⟩ => ⟨sv', he, h1, h2⟩
theorem leave1 (mb wb n : Nat) (x : Int) (code : List Cod) (s : SS) (cv sv kv iv ov : Value) (w : World) (hM : SAt Q w mb wb code s cv sv kv iv ov) (hl : s.ops.length ≤ 1000) (hn : n ≤ s.ops.length) :
    Calls Try.prog 59 #[.pointer (some ⟨mb, 0, none⟩), .int .i64 n, .slice (some ⟨w.heap.size, 0, none⟩) 1 1] (w.alloc (.cells #[.int .i32 x] 21)) (LDoes Q w mb wb code s cv sv kv iv ov (puts s n [x])) := by
  have ho : Only Nil w (w.alloc (.cells #[.int .i32 x] 21)) := (Only.refl _ _).alloc _
  have hlt := hM.blk.lt
  exact (leaves_any mb wb n w.heap.size [x] _ code s cv sv kv iv ov _ (hM.quiet ho) hl hn (srcI_new w [x] 1 rfl _) (by simp) (fun _ => by omega)).mono fun e w' ⟨sv', he, h1, h2⟩ => ⟨sv', he, (Gone.of_nil ho).trans h1, h2⟩
theorem leave2 (mb wb n : Nat) (x y : Int) (code : List Cod) (s : SS) (cv sv kv iv ov : Value) (w : World) (hM : SAt Q w mb wb code s cv sv kv iv ov) (hl : s.ops.length ≤ 1000) (hn : n ≤ s.ops.length) :
    Calls Try.prog 59 #[.pointer (some ⟨mb, 0, none⟩), .int .i64 n, .slice (some ⟨w.heap.size, 0, none⟩) 2 2] (w.alloc (.cells #[.int .i32 x, .int .i32 y] 21)) (LDoes Q w mb wb code s cv sv kv iv ov (puts s n [x, y])) := by
  have ho : Only Nil w (w.alloc (.cells #[.int .i32 x, .int .i32 y] 21)) := (Only.refl _ _).alloc _
  have hlt := hM.blk.lt
  exact (leaves_any mb wb n w.heap.size [x, y] _ code s cv sv kv iv ov _ (hM.quiet ho) hl hn (srcI_new w [x, y] 2 rfl _) (by simp) (fun _ => by omega)).mono fun e w' ⟨sv', he, h1, h2⟩ => ⟨sv', he, (Gone.of_nil ho).trans h1, h2⟩
/-- What was read anew. -/
theorem SAt.newIn {w : World} {mb wb : Nat} {code : List Cod} {s : SS} {cv sv kv iv ov x : Value} {B : List Nat} (h : SAt Q w mb wb code s cv sv kv iv ov) (hx : BytRow (OwnQ Q mb wb sv.ownBlock kv.ownBlock ov.ownBlock) w x B) :
    SAt Q (w.setCell ⟨mb, 4, none⟩ x) mb wb code { s with inp := B } cv sv kv x ov ∧ Only (M.One mb) w (w.setCell ⟨mb, 4, none⟩ x) := by
  have ho : Only (M.One mb) w (w.setCell ⟨mb, 4, none⟩ x) := M.Only.setOne (Only.refl _ _) _ _
  have q : ∀ k, M.One mb k → OwnQ Q mb wb sv.ownBlock kv.ownBlock ov.ownBlock k := fun k hk => Or.inl (Or.inl hk)
  have f : ∀ {x : Option Nat}, x ≠ some mb → ∀ k, x = some k → ¬ M.One mb k := fun hx k hk h1 => hx (by rw [hk, show k = mb from h1])
  exact ⟨⟨h.blk.setCell 4 x, h.wrd.kept ho (fun e => h.five.mw e.symm), ownsRow_only h.ops ho (fun k hk => f h.five.sm k hk), ownsRow_only h.cls ho (fun k hk => f h.five.km k hk), ownsRow_only h.out ho (fun k hk => f h.five.om k hk), h.cod.kept ho q, hx.kept ho q, h.five⟩, ho⟩
/-- A row of bytes without its first. -/
theorem BytRow.tail {S : Nat → Prop} {w : World} {b off cap L c : Nat} {l t : List Nat} (h : CellsAt w b off (U8s l)) (hb : ¬ S b ∧ b < w.heap.size) (hl : l = c :: t) (hL : t.length = L) (h2 : L + 1 ≤ cap) (h3 : cap ≤ maxLen) :
    BytRow S w (.slice (if cap = 1 then some (⟨b, off, none⟩ : Addr) else some ⟨b, off + 1, none⟩) L (cap - 1)) t := by
  subst hL
  refine ⟨b, _, cap - 1, off + 1, rfl, by omega, by omega, fun h0 => by rw [if_neg (by omega)], fun h0 => ?_, ?_, fun _ => hb⟩
  · split at h0 <;> cases h0
  intro i u hu
  have := h (i + 1) u (by rw [hl]; simpa [U8s] using hu)
  rw [show off + 1 + i = off + (i + 1) by omega]
  exact this

theorem xor_not (a : Int) (h : I32 a) : IntKind.i32.wrap (-1 - a) = -1 - a := by rw [IntKind.wrap_i32]; unfold I32 at h; omega
theorem byte_of (a : Int) : IntKind.u8.wrap a = ((a % 256).toNat : Int) := by rw [IntKind.wrap_u8]; omega

/-- What reckon tells. -/
def RTells (R : Option Int) (e : Ending) : Prop := match R with | some v => e = .returned (.tuple #[.int .i32 v, .bool true]) | none => e = .returned (.tuple #[.int .i32 0, .bool false])
theorem ne_beq {a b : Int} (h : a ≠ b) : (a == b) = false := by simpa using h
set_option maxHeartbeats 6400000 in
theorem reckon_any (op a b : Int) (ha : I32 a) (hb : I32 b) (w : World) : Calls Try.prog 76 #[.int .i64 op, .int .i32 a, .int .i32 b] w fun e w' => RTells (reck op a b) e ∧ w = w' := by
  by_cases h9 : op = 9
  · subst h9
    have e0 : reck 9 a b = some (wrap32 (a + b)) := rfl
    rw [e0]
    have c := add_any a b w ha hb
    clear ha hb e0
    go_enter Try.func76, Try.ntmps76
    go_wp2_with fail
    refine c.mono ?_
    rintro e w1 ⟨rfl, rfl⟩
    go_wp2_with fail
    go_ret2
    exact ⟨rfl, rfl⟩
  by_cases h10 : op = 10
  · subst h10
    have e0 : reck 10 a b = some (wrap32 (a - b)) := rfl
    rw [e0]
    have c := sub_any a b w ha hb
    clear ha hb e0
    go_enter Try.func76, Try.ntmps76
    go_wp2_with fail
    refine c.mono ?_
    rintro e w1 ⟨rfl, rfl⟩
    go_wp2_with fail
    go_ret2
    exact ⟨rfl, rfl⟩
  by_cases h11 : op = 11
  · subst h11
    have e0 : reck 11 a b = some (wrap32 (a * b)) := rfl
    rw [e0]
    have c := mul_any a b w ha hb
    clear ha hb e0
    go_enter Try.func76, Try.ntmps76
    go_wp2_with fail
    refine c.mono ?_
    rintro e w1 ⟨rfl, rfl⟩
    go_wp2_with fail
    go_ret2
    exact ⟨rfl, rfl⟩
  by_cases h12 : op = 12
  · subst h12
    have e0 : reck 12 a b = (if b < 1 then none else some (a / b)) := rfl
    rw [e0]
    by_cases hb1 : b < 1
    · rw [if_pos hb1]
      have c := div_no a b w hb1
      clear ha hb e0 hb1
      go_enter Try.func76, Try.ntmps76
      go_wp2_with fail
      refine c.mono ?_
      rintro e w1 ⟨rfl, rfl⟩
      go_wp2_with fail
      go_ret2
      exact ⟨rfl, rfl⟩
    · rw [if_neg hb1]
      have c := div_any a b w ha (by omega) hb.2
      clear ha hb e0 hb1
      go_enter Try.func76, Try.ntmps76
      go_wp2_with fail
      refine c.mono ?_
      rintro e w1 ⟨rfl, rfl⟩
      go_wp2_with fail
      go_ret2
      exact ⟨rfl, rfl⟩
  by_cases h13 : op = 13
  · subst h13
    have e0 : reck 13 a b = (if b < 1 then none else some (a % b)) := rfl
    rw [e0]
    by_cases hb1 : b < 1
    · rw [if_pos hb1]
      have c := mod_no a b w hb1
      clear ha hb e0 hb1
      go_enter Try.func76, Try.ntmps76
      go_wp2_with fail
      refine c.mono ?_
      rintro e w1 ⟨rfl, rfl⟩
      go_wp2_with fail
      go_ret2
      exact ⟨rfl, rfl⟩
    · rw [if_neg hb1]
      have c := mod_any a b w ha (by omega) hb.2
      clear ha hb e0 hb1
      go_enter Try.func76, Try.ntmps76
      go_wp2_with fail
      refine c.mono ?_
      rintro e w1 ⟨rfl, rfl⟩
      go_wp2_with fail
      go_ret2
      exact ⟨rfl, rfl⟩
  by_cases h15 : op = 15
  · subst h15
    have e0 : reck 15 a b = some (bits .and .i32 a b) := rfl
    rw [e0]
    clear ha hb e0
    go_enter Try.func76, Try.ntmps76
    go_wp2_with fail
    go_ret2
    exact ⟨rfl, rfl⟩
  by_cases h16 : op = 16
  · subst h16
    have e0 : reck 16 a b = some (bits .or .i32 a b) := rfl
    rw [e0]
    clear ha hb e0
    go_enter Try.func76, Try.ntmps76
    go_wp2_with fail
    go_ret2
    exact ⟨rfl, rfl⟩
  by_cases h17 : op = 17
  · subst h17
    have e0 : reck 17 a b = some (bits .xor .i32 a b) := rfl
    rw [e0]
    clear ha hb e0
    go_enter Try.func76, Try.ntmps76
    go_wp2_with fail
    go_ret2
    exact ⟨rfl, rfl⟩
  by_cases h19 : op = 19
  · subst h19
    have e0 : reck 19 a b = some (wrap32 (a % 4294967296 * 2 ^ sK b % 4294967296)) := rfl
    rw [e0]
    have c := lsl_any a b w
    clear ha hb e0
    go_enter Try.func76, Try.ntmps76
    go_wp2_with fail
    refine c.mono ?_
    rintro e w1 ⟨rfl, rfl⟩
    go_wp2_with fail
    go_ret2
    exact ⟨rfl, rfl⟩
  by_cases h20 : op = 20
  · subst h20
    have e0 : reck 20 a b = some (a / 2 ^ sK b) := rfl
    rw [e0]
    have c := asr_any a b w
    clear ha hb e0
    go_enter Try.func76, Try.ntmps76
    go_wp2_with fail
    refine c.mono ?_
    rintro e w1 ⟨rfl, rfl⟩
    go_wp2_with fail
    go_ret2
    exact ⟨rfl, rfl⟩
  by_cases h21 : op = 21
  · subst h21
    have e0 : reck 21 a b = some (S (rorN (U a) (sK b))) := rfl
    rw [e0]
    have c := ror_any a b w
    clear ha hb e0
    go_enter Try.func76, Try.ntmps76
    go_wp2_with fail
    refine c.mono ?_
    rintro e w1 ⟨rfl, rfl⟩
    go_wp2_with fail
    go_ret2
    exact ⟨rfl, rfl⟩
  by_cases h22 : op = 22
  · subst h22
    have e0 : reck 22 a b = some (M.one (a == b)) := rfl
    rw [e0]
    obtain ⟨t, ht⟩ : ∃ t, (a == b) = t := ⟨_, rfl⟩
    have c := oneS_any t w
    rw [ht]
    clear ha hb e0
    go_enter Try.func76, Try.ntmps76
    go_wp2_with fail
    refine c.mono ?_
    rintro e w1 ⟨rfl, rfl⟩
    go_wp2_with fail
    go_ret2
    exact ⟨rfl, rfl⟩
  by_cases h23 : op = 23
  · subst h23
    have e0 : reck 23 a b = some (M.one (decide (a < b))) := rfl
    rw [e0]
    obtain ⟨t, ht⟩ : ∃ t, (decide (a < b)) = t := ⟨_, rfl⟩
    have c := oneS_any t w
    rw [ht]
    clear ha hb e0
    go_enter Try.func76, Try.ntmps76
    go_wp2_with fail
    refine c.mono ?_
    rintro e w1 ⟨rfl, rfl⟩
    go_wp2_with fail
    go_ret2
    exact ⟨rfl, rfl⟩
  by_cases h24 : op = 24
  · subst h24
    have e0 : reck 24 a b = some (M.one (decide (a ≤ b))) := rfl
    rw [e0]
    obtain ⟨t, ht⟩ : ∃ t, (decide (a ≤ b)) = t := ⟨_, rfl⟩
    have c := oneS_any t w
    rw [ht]
    clear ha hb e0
    go_enter Try.func76, Try.ntmps76
    go_wp2_with fail
    refine c.mono ?_
    rintro e w1 ⟨rfl, rfl⟩
    go_wp2_with fail
    go_ret2
    exact ⟨rfl, rfl⟩
  have e0 : reck op a b = none := by unfold reck; simp only [h9, h10, h11, h12, h13, h15, h16, h17, h19, h20, h21, h22, h23, h24, if_false]
  have g9 : (op == 9) = false := ne_beq h9
  have g10 : (op == 10) = false := ne_beq h10
  have g11 : (op == 11) = false := ne_beq h11
  have g12 : (op == 12) = false := ne_beq h12
  have g13 : (op == 13) = false := ne_beq h13
  have g15 : (op == 15) = false := ne_beq h15
  have g16 : (op == 16) = false := ne_beq h16
  have g17 : (op == 17) = false := ne_beq h17
  have g19 : (op == 19) = false := ne_beq h19
  have g20 : (op == 20) = false := ne_beq h20
  have g21 : (op == 21) = false := ne_beq h21
  have g22 : (op == 22) = false := ne_beq h22
  have g23 : (op == 23) = false := ne_beq h23
  have g24 : (op == 24) = false := ne_beq h24
  rw [e0]
  clear ha hb e0 h9 h10 h11 h12 h13 h15 h16 h17 h19 h20 h21 h22 h23 h24
  go_enter Try.func76, Try.ntmps76
  go_wp2_with fail
  go_ret2
  exact ⟨rfl, rfl⟩

set_option maxRecDepth 10000 in
set_option maxHeartbeats 1600000 in
/-- The input's next byte. -/
theorem getc_any (mb wb : Nat) (code : List Cod) (s : SS) (cv sv kv iv ov : Value) (w : World) (hM : SAt Q w mb wb code s cv sv kv iv ov) (hs : s.Ok) :
    Calls Try.prog 62 #[.pointer (some ⟨mb, 0, none⟩)] w (SDoes Q w mb wb code s cv sv kv iv ov (sGetc s)) := by
  have c4 : w.cell? ⟨mb, 4, none⟩ = some iv := hM.blk.cell 4
  have hlt := hM.blk.lt
  obtain ⟨b, ao, cap, off, rfl, h2, h3, h4, h5, h6, h7⟩ := hM.inp
  by_cases h0 : s.inp.length = 0
  · have e1 : sGetc s = puts s 0 [0] := by unfold sGetc; rw [if_pos h0]
    rw [e1]
    rw [h0] at c4
    have cL := leave1 (Q := Q) mb wb 0 0 code s _ _ _ _ _ w hM hs.nops (Nat.zero_le _)
    rw [show ((0 : Nat) : Int) = 0 from rfl] at cL
    clear hM hs e1 h2 h3 h4 h5 h6 h7
    go_enter Try.func62, Try.ntmps62
    go_wp2_with fail
    refine cL.mono ?_
    rintro e w1 ⟨sv', rfl, hg, hM'⟩
    go_wp2_with fail
    go_ret
    exact ⟨sv', _, _, _, rfl, hg, hM'⟩
  · obtain ⟨c, t, hct⟩ : ∃ c t, s.inp = c :: t := by
      cases h : s.inp with
      | nil => rw [h] at h0; exact absurd rfl h0
      | cons c t => exact ⟨c, t, rfl⟩
    have e1 : sGetc s = (puts s 0 [(c : Int)]).map fun t => { t with inp := s.inp.drop 1 } := by unfold sGetc; rw [if_neg h0, hct]; rfl
    obtain ⟨X, hX⟩ : ∃ X, sGetc s = X := ⟨_, rfl⟩
    rw [hX] at e1 ⊢
    have HX := Lib.hid e1
    clear hX
    have ea := h4 (by omega)
    subst ea
    have hc : w.cell? ⟨b, off, none⟩ = some (.int .u8 c) := h6 0 _ (by rw [hct]; rfl)
    have hc8 : c < 256 := hs.inp c (by rw [hct]; exact List.mem_cons_self)
    have hl : s.inp.length = t.length + 1 := by rw [hct]; rfl
    rw [hl] at c4 h2
    have cL := leave1 (Q := Q) mb wb 0 c code s _ _ _ _ _ w hM hs.nops (Nat.zero_le _)
    rw [show ((0 : Nat) : Int) = 0 from rfl] at cL
    have cw : IntKind.i32.wrap (c : Int) = (c : Int) := by rw [IntKind.wrap_i32]; omega
    have HM := Lib.hid hM
    obtain ⟨L, hL⟩ : ∃ L, t.length = L := ⟨_, rfl⟩
    rw [hL] at c4 h2
    have HLL := Lib.hid hL
    have HCT := Lib.hid hct
    have H6 := Lib.hid h6
    have H7 := Lib.hid (h7 (by omega))
    have hl0 : (0 : Int) ≤ (L : Int) := Int.natCast_nonneg _
    have hmx : (cap : Int) ≤ 9223372036854775807 := by
      have : maxLen ≤ 9223372036854775807 := by decide
      omega
    clear hM hs e1 h4 h5 h6 h7 h0 hl hL
    go_enter Try.func62, Try.ntmps62
    go_wp2_with fail
    refine cL.mono ?_
    rintro e w1 ⟨sv', rfl, hg, hM'⟩
    clear cL
    cases hp : puts s 0 [(c : Int)] with
    | none =>
      rw [hp] at hM'
      simp only [Option.isSome_none, Option.getD_none] at hM' ⊢
      have hx0 := HX.out
      rw [hp] at hx0
      have hx : X = none := hx0
      clear HX hx0
      subst hx
      have HM' := Lib.hid hM'
      clear hM' hp
      go_wp2_with fail
      go_ret
      exact ⟨sv', kv, _, ov, rfl, hg, HM'.out⟩
    | some s1 =>
      rw [hp] at hM'
      simp only [Option.isSome_some, Option.getD_some] at hM' ⊢
      have hx0 := HX.out
      rw [hp] at hx0
      have hx : X = some { s1 with inp := t } := by rw [hx0, HCT.out]; rfl
      clear HX hx0
      have HX := Lib.hid hx
      clear hx
      have hin : s1.inp = s.inp := (puts_keeps hp).2.2.2.2.2.1
      have d4 : w1.cell? ⟨mb, 4, none⟩ = some (.slice (some ⟨b, off, none⟩) (L + 1) cap) := by
        have := hM'.blk.cell 4
        rw [show s.inp.length = L + 1 by rw [HCT.out, List.length_cons, HLL.out]] at this
        exact this
      have f4 := hM'.blk.free 4
      have hlt1 := hM'.blk.lt
      obtain ⟨b', ao', cap', off', e', z2, z3, z4, z5, z6, z7⟩ := hM'.inp
      have hl' : s1.inp.length = L + 1 := by rw [hin, HCT.out, List.length_cons, HLL.out]
      simp only [Value.slice.injEq] at e'
      obtain ⟨rfl, _, rfl⟩ := e'
      have ea' := z4 (by omega)
      injection ea' with ea'
      injection ea' with ea1 ea2
      subst ea1
      subst ea2
      have hT := BytRow.tail (L := L) z6 (z7 (by omega)) (hin.trans HCT.out) HLL.out h2 h3
      have hN := SAt.newIn hM' hT
      have HN := Lib.hid hN
      obtain ⟨ap, hap⟩ : ∃ ap, (if cap = 1 then some (⟨b, off, none⟩ : Addr) else some ⟨b, off + 1, none⟩) = ap := ⟨_, rfl⟩
      rw [hap] at HN
      clear hM' hp hin z2 z3 z4 z5 z6 z7 hT hN hl' hct H6 H7
      go_wp2_with fail
      go_ret
      rw [HX.out]
      exact ⟨sv', kv, _, ov, rfl, hg.trans (Gone.of_one HN.out.2), HN.out.1⟩

set_option maxRecDepth 10000 in
set_option maxHeartbeats 1600000 in
/-- A word is kept. -/
theorem storeS_any (mb wb : Nat) (p x : Int) (code : List Cod) (s : SS) (cv sv kv iv ov : Value) (w : World) (hM : SAt Q w mb wb code s cv sv kv iv ov) (hs : s.Ok) (hn : 2 ≤ s.ops.length) {X : Option SS} (hX : (if 0 ≤ p ∧ p < s.mem.length then puts { s with mem := s.mem.set p.toNat x } 2 [] else none) = X) :
    Calls Try.prog 74 #[.pointer (some ⟨mb, 0, none⟩), .int .i64 p, .int .i32 x] w (SDoes Q w mb wb code s cv sv kv iv ov X) := by
  have c1 : w.cell? ⟨mb, 1, none⟩ = some (.slice (some ⟨wb, 0, none⟩) s.mem.length s.mem.length) := hM.blk.cell 1
  have hlt := hM.blk.lt
  have hlw := hM.wrd.lt
  by_cases h0 : 0 ≤ p ∧ p < s.mem.length
  · rw [if_pos h0] at hX
    obtain ⟨k, rfl⟩ : ∃ k : Nat, p = k := ⟨p.toNat, by omega⟩
    have hk : k < s.mem.length := by omega
    simp only [Int.toNat_natCast] at hX
    have cw : w.cell? ⟨wb, k, none⟩ = some (.int .i32 (s.mem.getD k 0)) := by rw [hM.wrd.cell k, List.getElem?_toArray]; exact I32s_get hk
    have fw := hM.wrd.free k
    have ho : Only (M.One wb) w (w.setCell ⟨wb, k, none⟩ (.int .i32 x)) := (Only.refl _ w).setCell' (M.One wb) rfl _
    have q : ∀ j, M.One wb j → OwnQ Q mb wb sv.ownBlock kv.ownBlock ov.ownBlock j := fun j hj => Or.inl (Or.inr (Or.inl hj))
    have f : ∀ {x : Option Nat}, x ≠ some wb → ∀ k, x = some k → ¬ M.One wb k := fun hx k hk h1 => hx (by rw [hk, show k = wb from h1])
    have hM1 : SAt Q (w.setCell ⟨wb, k, none⟩ (.int .i32 x)) mb wb code { s with mem := s.mem.set k x } cv sv kv iv ov := by
      have hB := hM.blk.kept ho (fun e => hM.five.mw e)
      have hW := hM.wrd.setCell k (.int .i32 x)
      have e1 : ((I32s s.mem).toArray.setIfInBounds k (.int .i32 x)) = (I32s (s.mem.set k x)).toArray := by simp [I32s, List.map_set]
      rw [e1] at hW
      refine ⟨?_, hW, ownsRow_only hM.ops ho (fun k hk => f hM.five.sw k hk), ownsRow_only hM.cls ho (fun k hk => f hM.five.kw k hk), ownsRow_only hM.out ho (fun k hk => f hM.five.ow k hk), hM.cod.kept ho q, hM.inp.kept ho q, hM.five⟩
      show Blk _ mb (scells cv (.slice (some ⟨wb, 0, none⟩) (s.mem.set k x).length (s.mem.set k x).length) sv kv iv ov _) _
      rw [List.length_set]
      exact hB
    have hg : Gone w (w.setCell ⟨wb, k, none⟩ (.int .i32 x)) mb wb sv kv ov sv kv ov := ⟨ho.mono (fun _ h => Or.inr (Or.inl h)), Or.inl rfl, Or.inl rfl, Or.inl rfl⟩
    have cL := leave0 (Q := Q) mb wb 2 code { s with mem := s.mem.set k x } cv sv kv iv ov _ hM1 hs.nops hn
    rw [show ((2 : Nat) : Int) = 2 from rfl, hX] at cL
    obtain ⟨n, hnn⟩ : ∃ n, s.mem.length = n := ⟨_, rfl⟩
    rw [hnn] at c1 hk
    have hln : n ≤ 1048576 := by rw [← hnn]; exact hs.len
    have k0 : (0 : Int) ≤ (k : Int) := Int.natCast_nonneg _
    have k1 : (k : Int) < (n : Int) := by omega
    have k2 : decide ((k : Int) < 0) = false := by simp
    have HG := Lib.hid hg
    have hp0 := puts_some (s := { s with mem := s.mem.set k x }) (n := 2) (l := []) (by have := hs.nops; simp only [List.length_nil]; omega)
    rw [hX] at hp0
    have HX := Lib.hid hX
    have HP0 := Lib.hid hp0
    clear hM hM1 hs hn hX h0 hnn ho hg hp0
    go_enter Try.func74, Try.ntmps74
    go_wp2_with fail
    refine cL.mono ?_
    rintro e w1 ⟨sv', rfl, hg', hM'⟩
    clear cL
    obtain ⟨b, hb⟩ : ∃ b, X.isSome = b := ⟨_, rfl⟩
    rw [hb]
    have HM' := Lib.hid hM'
    have HB := Lib.hid hb
    clear hM' hb
    go_wp2_with fail
    go_ret
    refine ⟨sv', kv, iv, ov, ret_bool HB.out.symm, HG.out.trans hg', ?_⟩
    have hh := HM'.out
    cases hx : X with
    | some t => rw [hx] at hh; exact hh
    | none => have := HP0.out; rw [hx] at this; cases this
  · rw [if_neg h0] at hX
    subst hX
    obtain ⟨n, hnn⟩ : ∃ n, s.mem.length = n := ⟨_, rfl⟩
    rw [hnn] at c1 h0
    have hln : n ≤ 1048576 := by rw [← hnn]; exact hs.len
    have HM := Lib.hid hM
    clear hM hs hn hnn
    by_cases h1 : p < 0
    · clear h0
      go_enter Try.func74, Try.ntmps74
      go_wp2_with fail
      go_ret
      exact ⟨sv, kv, iv, ov, rfl, Gone.of_nil (Only.refl _ _), HM.out⟩
    · have h2 : (n : Int) ≤ p := by omega
      have h3 : decide (p < 0) = false := by simp; omega
      clear h0
      go_enter Try.func74, Try.ntmps74
      go_wp2_with fail
      go_ret
      exact ⟨sv, kv, iv, ov, rfl, Gone.of_nil (Only.refl _ _), HM.out⟩

set_option maxRecDepth 10000 in
set_option maxHeartbeats 3200000 in
/-- An instruction that takes one operand. -/
theorem ofOne_any (mb wb : Nat) (op : Int) (hop : op = 3 ∨ op = 2 ∨ op = 6 ∨ op = 14 ∨ op = 18 ∨ op = 33) (code : List Cod) (s : SS) (cv sv kv iv ov : Value) (w : World) (hM : SAt Q w mb wb code s cv sv kv iv ov) (hs : s.Ok) (hol : s.out.length ≤ 1099511627776) :
    Calls Try.prog 64 #[.pointer (some ⟨mb, 0, none⟩), .int .i64 op] w (SDoes Q w mb wb code s cv sv kv iv ov (sOne s op)) := by
  by_cases h0 : s.ops.length = 0
  · have cO := opd_out (Q := Q) mb wb 0 code s cv sv kv iv ov w hM hs.nops (by omega) (by decide)
    rw [show ((0 : Nat) : Int) = 0 from rfl] at cO
    have e1 : sOne s op = none := by unfold sOne; rw [if_pos h0]
    rw [e1]
    have HM := Lib.hid hM
    clear hM hs h0 e1 hop
    go_enter Try.func64, Try.ntmps64
    go_wp2_with fail
    refine cO.mono ?_
    rintro e w1 ⟨rfl, rfl⟩
    clear cO
    go_wp2_with fail
    go_ret
    exact ⟨sv, kv, iv, ov, rfl, Gone.of_nil (Only.refl _ _), HM.out⟩
  · have cO := opd_in (Q := Q) mb wb 0 code s cv sv kv iv ov w hM hs.nops (by omega)
    rw [show ((0 : Nat) : Int) = 0 from rfl] at cO
    have hi := opd_i32 hs 0
    have hn1 : 1 ≤ s.ops.length := by omega
    obtain ⟨a, ha⟩ : ∃ a, opd s 0 = a := ⟨_, rfl⟩
    rw [ha] at cO hi
    have hiU := hi
    unfold I32 at hiU
    have HA := Lib.hid ha
    have HS := Lib.hid hs
    have hso : sOne s op = if op = 3 then puts s 1 [] else if op = 2 then puts s 1 [a, a] else if op = 6 then (if 0 ≤ a ∧ a < s.mem.length then puts s 1 [s.mem.getD a.toNat 0] else none) else if op = 14 then puts s 1 [wrap32 (0 - a)] else if op = 18 then puts s 1 [bits .xor .i32 (-1) a] else puts { s with out := s.out ++ [(a % 256).toNat] } 1 [] := by
      unfold sOne; rw [if_neg h0, ha]
    have hl := hs.nops
    clear hs ha
    rcases hop with rfl | rfl | rfl | rfl | rfl | rfl
    · rw [if_pos rfl] at hso
      rw [hso]
      have cL := fun w (hM : SAt Q w mb wb code s cv sv kv iv ov) => leave0 (Q := Q) mb wb 1 code s cv sv kv iv ov w hM hl hn1
      rw [show ((1 : Nat) : Int) = 1 from rfl] at cL
      obtain ⟨X, hX⟩ : ∃ X, puts s 1 [] = X := ⟨_, rfl⟩
      rw [hX] at cL ⊢
      clear hso hX hl h0
      go_enter Try.func64, Try.ntmps64
      go_wp2_with fail
      refine cO.mono ?_
      rintro e w1 ⟨rfl, rfl⟩
      clear cO
      go_wp2_with fail
      refine (cL _ hM).mono ?_
      rintro e w1 ⟨sv', rfl, hg, hM'⟩
      go_wp2_with fail
      go_ret
      exact ⟨sv', kv, iv, ov, rfl, hg, hM'⟩
    · rw [if_neg (by decide), if_pos rfl] at hso
      rw [hso]
      have cL := fun w (hM : SAt Q w mb wb code s cv sv kv iv ov) => leave2 (Q := Q) mb wb 1 a a code s cv sv kv iv ov w hM hl hn1
      rw [show ((1 : Nat) : Int) = 1 from rfl] at cL
      obtain ⟨X, hX⟩ : ∃ X, puts s 1 [a, a] = X := ⟨_, rfl⟩
      rw [hX] at cL ⊢
      clear hso hX hl h0
      go_enter Try.func64, Try.ntmps64
      go_wp2_with fail
      refine cO.mono ?_
      rintro e w1 ⟨rfl, rfl⟩
      clear cO
      go_wp2_with fail
      refine (cL _ hM).mono ?_
      rintro e w1 ⟨sv', rfl, hg, hM'⟩
      go_wp2_with fail
      go_ret
      exact ⟨sv', kv, iv, ov, rfl, hg, hM'⟩
    · rw [if_neg (by decide), if_neg (by decide), if_pos rfl] at hso
      rw [hso]
      have aw : IntKind.i64.wrap a = a := by rw [IntKind.wrap_i64]; omega
      by_cases hin : 0 ≤ a ∧ a < s.mem.length
      · rw [if_pos hin]
        obtain ⟨k, rfl⟩ : ∃ k : Nat, a = k := ⟨a.toNat, by omega⟩
        rw [Int.toNat_natCast]
        have cW := wordS_in (Q := Q) mb wb k code s cv sv kv iv ov w hM HS.out.len (by omega)
        have cL := fun w (hM : SAt Q w mb wb code s cv sv kv iv ov) => leave1 (Q := Q) mb wb 1 (s.mem.getD k 0) code s cv sv kv iv ov w hM hl hn1
        rw [show ((1 : Nat) : Int) = 1 from rfl] at cL
        obtain ⟨y, hy⟩ : ∃ y, s.mem.getD k 0 = y := ⟨_, rfl⟩
        rw [hy] at cW cL ⊢
        obtain ⟨X, hX⟩ : ∃ X, puts s 1 [y] = X := ⟨_, rfl⟩
        rw [hX] at cL ⊢
        clear hso hX hl h0 hy hin
        go_enter Try.func64, Try.ntmps64
        go_wp2_with fail
        refine cO.mono ?_
        rintro e w1 ⟨rfl, rfl⟩
        clear cO
        go_wp2_with fail
        refine cW.mono ?_
        rintro e w1 ⟨rfl, rfl⟩
        clear cW
        go_wp2_with fail
        refine (cL _ hM).mono ?_
        rintro e w1 ⟨sv', rfl, hg, hM'⟩
        obtain ⟨b, hb⟩ : ∃ b, X.isSome = b := ⟨_, rfl⟩
        rw [hb]
        have HB := Lib.hid hb
        clear hb
        go_wp2_with fail
        go_ret
        exact ⟨sv', kv, iv, ov, ret_bool (by rw [HB.out]), hg, hM'⟩
      · rw [if_neg hin]
        have cW := wordS_out (Q := Q) mb wb a code s cv sv kv iv ov w hM HS.out.len hin
        have HM := Lib.hid hM
        clear hso hl h0 hin hM
        go_enter Try.func64, Try.ntmps64
        go_wp2_with fail
        refine cO.mono ?_
        rintro e w1 ⟨rfl, rfl⟩
        clear cO
        go_wp2_with fail
        refine cW.mono ?_
        rintro e w1 ⟨rfl, rfl⟩
        clear cW
        go_wp2_with fail
        go_ret
        exact ⟨sv, kv, iv, ov, rfl, Gone.of_nil (Only.refl _ _), HM.out⟩
    · rw [if_neg (by decide), if_neg (by decide), if_neg (by decide), if_pos rfl] at hso
      rw [hso]
      have cS := fun w => sub_any 0 a w (by unfold I32; omega) hi
      obtain ⟨y, hy⟩ : ∃ y, wrap32 (0 - a) = y := ⟨_, rfl⟩
      rw [hy] at cS ⊢
      have cL := fun w (hM : SAt Q w mb wb code s cv sv kv iv ov) => leave1 (Q := Q) mb wb 1 y code s cv sv kv iv ov w hM hl hn1
      rw [show ((1 : Nat) : Int) = 1 from rfl] at cL
      obtain ⟨X, hX⟩ : ∃ X, puts s 1 [y] = X := ⟨_, rfl⟩
      rw [hX] at cL ⊢
      clear hso hX hl h0 hy
      go_enter Try.func64, Try.ntmps64
      go_wp2_with fail
      refine cO.mono ?_
      rintro e w1 ⟨rfl, rfl⟩
      clear cO
      go_wp2_with fail
      refine (cS _).mono ?_
      rintro e w1 ⟨rfl, rfl⟩
      clear cS
      go_wp2_with fail
      refine (cL _ hM).mono ?_
      rintro e w1 ⟨sv', rfl, hg, hM'⟩
      go_wp2_with fail
      go_ret
      exact ⟨sv', kv, iv, ov, rfl, hg, hM'⟩
    · rw [if_neg (by decide), if_neg (by decide), if_neg (by decide), if_neg (by decide), if_pos rfl] at hso
      rw [hso]
      have cL := fun w (hM : SAt Q w mb wb code s cv sv kv iv ov) => leave1 (Q := Q) mb wb 1 (bits .xor .i32 (-1) a) code s cv sv kv iv ov w hM hl hn1
      rw [show ((1 : Nat) : Int) = 1 from rfl] at cL
      obtain ⟨X, hX⟩ : ∃ X, puts s 1 [bits .xor .i32 (-1) a] = X := ⟨_, rfl⟩
      rw [hX] at cL ⊢
      clear hso hX hl h0
      go_enter Try.func64, Try.ntmps64
      go_wp2_with fail
      refine cO.mono ?_
      rintro e w1 ⟨rfl, rfl⟩
      clear cO
      go_wp2_with fail
      refine (cL _ hM).mono ?_
      rintro e w1 ⟨sv', rfl, hg, hM'⟩
      go_wp2_with fail
      go_ret
      exact ⟨sv', kv, iv, ov, rfl, hg, hM'⟩
    · rw [if_neg (by decide), if_neg (by decide), if_neg (by decide), if_neg (by decide), if_neg (by decide)] at hso
      rw [hso]
      have c5 : w.cell? ⟨mb, 5, none⟩ = some ov := hM.blk.cell 5
      have f5 := hM.blk.free 5
      have hlt := hM.blk.lt
      obtain ⟨i8, h8, h80, h81, h82⟩ := info_parts Try.info5
      obtain ⟨y, hy⟩ : ∃ y, (a % 256).toNat = y := ⟨_, rfl⟩
      have yw : IntKind.u8.wrap a = (y : Int) := by rw [← hy]; exact byte_of a
      have ym : a % 256 = (y : Int) := by omega
      rw [hy]
      obtain ⟨ao, cap, rfl⟩ := sl_of_own hM.out
      have hown := hM.out
      obtain ⟨n, hnn⟩ : ∃ n, s.out.length = n := ⟨_, rfl⟩
      rw [hnn] at hown c5 hol
      obtain ⟨X, hX⟩ : ∃ X, puts { s with out := s.out ++ [y] } 1 [] = X := ⟨_, rfl⟩
      rw [hX]
      have HX := Lib.hid hX
      have HM := Lib.hid hM
      have HNN := Lib.hid hnn
      have HL := Lib.hid hl
      clear hso hX hM h0 hy hnn hl
      go_enter Try.func64, Try.ntmps64
      go_wp2_with fail
      refine cO.mono ?_
      rintro e w1 ⟨rfl, rfl⟩
      clear cO
      go_wp2_with (with_reducible refine wpList_append_one rfl _ _ 23 rfl 0 5 i8 (.int .u8 0) 1 Try.underlying23 h8 h80 h81 h82 rfl _ _ _ rfl hown (.int .u8 y) rfl rfl ?c1 ?c2 (Nat.zero_le _) ?_)
      case c1 => simp [maxLen]; omega
      case c2 => omega
      intro g9 cap9 w2 hown2 hc1 hc2 hg9 ho2
      have e9 : U8s s.out ++ [Value.int .u8 y] = U8s (s.out ++ [y]) := by simp [U8s]
      rw [e9] at hown2
      have hN := SAt.newOut (l := s.out ++ [y]) HM.out (ho2.mono (fun j hj => by
        rcases ao with _ | a0
        · exact hj
        · exact hj)) (by rw [List.length_append, List.length_singleton, HNN.out]; exact hown2) (by
        rcases hg9 with h1 | h1
        · exact Or.inl (by
            rcases ao with _ | a0
            · exact h1
            · exact h1)
        · exact Or.inr ⟨g9, rfl, h1⟩)
      have f2 := HM.out.blk.kept ho2 (fun e => HM.out.five.om (by
        rcases ao with _ | a0
        · exact e.symm
        · exact e.symm))
      have f25 := f2.free 5
      have d25 : w2.cell? ⟨mb, 5, none⟩ = some (.slice ao s.out.length cap) := f2.cell 5
      have hlt2 := f2.lt
      have cL := leave0 (Q := Q) mb wb 1 code _ cv sv kv iv _ _ hN.1 HL.out hn1
      rw [show ((1 : Nat) : Int) = 1 from rfl, HX.out] at cL
      have hp0 := puts_some (s := { s with out := s.out ++ [y] }) (n := 1) (l := []) (by have := HL.out; simp only [List.length_nil]; omega)
      rw [HX.out] at hp0
      have HP0 := Lib.hid hp0
      have HN := Lib.hid hN.2
      clear hN f2 hown2 hown hg9 ho2 e9 c5 f5 hp0
      go_wp2_with fail
      refine cL.mono ?_
      rintro e w3 ⟨sv', rfl, hg, hM'⟩
      clear cL
      have HM' := Lib.hid hM'
      have HG := Lib.hid hg
      obtain ⟨b, hb⟩ : ∃ b, X.isSome = b := ⟨_, rfl⟩
      rw [hb]
      have HB := Lib.hid hb
      clear hM' hg hb
      go_wp2_with fail
      go_ret
      refine ⟨sv', kv, iv, _, ret_bool HB.out.symm, HN.out.trans HG.out, ?_⟩
      have hh := HM'.out
      rw [HP0.out] at hh ⊢
      exact hh
end Go.Proofs.Ytpnhjjihdcopnaa
