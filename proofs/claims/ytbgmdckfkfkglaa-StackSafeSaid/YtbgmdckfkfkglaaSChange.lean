/- The stack machine: an instruction that the next one follows. -/
import Derived.Test.YtbgmdckfkfkglaaSTwo
import Derived.Test.YtbgmdckfkfkglaaSEnter
set_option linter.unusedSimpArgs false
set_option linter.unusedVariables false
namespace Go.Proofs.Ytbgmdckfkfkglaa
open Go.RowKit M
variable {Q : Nat → Prop}

theorem size_alloc1 (w : World) (cs : Array Value) (t : TypeId) : (w.alloc (.cells cs t)).heap.size = w.heap.size + 1 := by simp

/-- Behind a block just laid: what is left. -/
theorem left1 (mb wb : Nat) (x : Int) (code : List Cod) (s : SS) (cv sv kv iv ov : Value) (w : World) (cs : Array Value) (ty : TypeId) (hM : SAt Q w mb wb code s cv sv kv iv ov) (hl : s.ops.length ≤ 1000) :
    Calls Try.prog 72 #[.pointer (some ⟨mb, 0, none⟩), .int .i64 0, .slice (some ⟨w.heap.size + 1, 0, none⟩) 1 1] ((w.alloc (.cells cs ty)).alloc (.cells #[.int .i32 x] 21)) (SDoes Q w mb wb code s cv sv kv iv ov (puts s 0 [x])) := by
  have ho0 : Only Nil w (w.alloc (.cells cs ty)) := (Only.refl _ _).alloc _
  have cL := leave1 (Q := Q) mb wb 0 x code s cv sv kv iv ov _ (hM.quiet ho0) hl (Nat.zero_le _)
  rw [size_alloc1, show ((0 : Nat) : Int) = 0 from rfl] at cL
  exact cL.mono fun e w' ⟨sv', h1, h2, h3⟩ => ⟨sv', kv, iv, ov, h1, (Gone.of_nil ho0).trans h2, h3⟩
theorem left1d (mb wb : Nat) (x : Int) (code : List Cod) (s : SS) (cv sv kv iv ov : Value) (w : World) (cs : Array Value) (ty : TypeId) (hM : SAt Q w mb wb code s cv sv kv iv ov) (hl : s.ops.length ≤ 1000) :
    Calls Try.prog 72 #[.pointer (some ⟨mb, 0, none⟩), .int .i64 0, .slice (some ⟨w.heap.size + 1, 0, none⟩) 1 1] ((w.alloc (.cells cs ty)).alloc (.cells #[.int .i32 x] 21)).drew (SDoes Q w mb wb code s cv sv kv iv ov (puts s 0 [x])) := by
  have ho0 : Only Nil w ((w.alloc (.cells cs ty)).alloc (.cells #[.int .i32 x] 21)).drew := (((Only.refl _ _).alloc _).alloc _).drew
  have hlt := hM.blk.lt
  have hS := (srcI_new (w.alloc (.cells cs ty)) [x] 1 rfl 21).kept (S := Nil) (Only.refl Nil _).drew (fun _ h => h)
  have cL := leaves_any (Q := Q) mb wb 0 _ [x] _ code s cv sv kv iv ov _ (hM.quiet ho0) hl (Nat.zero_le _) hS (by simp) (fun _ => by rw [size_alloc1]; omega)
  rw [size_alloc1, show ((0 : Nat) : Int) = 0 from rfl] at cL
  exact cL.mono fun e w' ⟨sv', h1, h2, h3⟩ => ⟨sv', kv, iv, ov, h1, (Gone.of_nil ho0).trans h2, h3⟩
theorem SDoes.from {w w1 : World} {mb wb : Nat} {code : List Cod} {s : SS} {cv sv kv iv ov : Value} {X : Option SS} {e : Ending} {w' : World} (h : SDoes Q w1 mb wb code s cv sv kv iv ov X e w') (ho : Only Nil w w1) : SDoes Q w mb wb code s cv sv kv iv ov X e w' := by
  obtain ⟨sv', kv', iv', ov', h1, h2, h3⟩ := h
  exact ⟨sv', kv', iv', ov', h1, (Gone.of_nil ho).trans h2, h3⟩

set_option maxRecDepth 10000 in
set_option maxHeartbeats 3200000 in
theorem change_any (mb wb : Nat) (c : Cod) (hk : I32 c.k) (code : List Cod) (s : SS) (cv sv kv iv ov : Value) (w : World) (hM : SAt Q w mb wb code s cv sv kv iv ov) (hs : s.Ok) (hol : s.out.length ≤ 1099511627776) :
    Calls Try.prog 62 #[.pointer (some ⟨mb, 0, none⟩), c.val] w (SDoes Q w mb wb code s cv sv kv iv ov (sChange s c)) := by
  obtain ⟨op, k⟩ := c
  simp only at hk
  show Calls Try.prog 62 #[.pointer (some ⟨mb, 0, none⟩), .agg #[.int .i64 op, .int .i32 k]] w _
  have kw : IntKind.i64.wrap k = k := by unfold I32 at hk; rw [IntKind.wrap_i64]; omega
  have ho0 : Only Nil w (w.alloc (.cells #[Value.int .i64 op, .int .i32 k] 49)) := (Only.refl _ _).alloc _
  have hM0 := hM.quiet ho0
  have hlt0 := hM.blk.lt
  have HO := Lib.hid ho0
  have HS := Lib.hid hs
  have hl := hs.nops
  by_cases h1 : op = 1
  · subst h1
    have e1 : sChange s ⟨1, k⟩ = puts s 0 [k] := rfl
    rw [e1]
    have cL := left1 (Q := Q) mb wb k code s cv sv kv iv ov w #[Value.int .i64 1, .int .i32 k] 49 hM hl
    obtain ⟨X, hX⟩ : ∃ X, puts s 0 [k] = X := ⟨_, rfl⟩
    rw [hX] at cL ⊢
    clear hM hM0 ho0 hs e1 hX hl hol hk kw
    go_enter Try.func62, Try.ntmps62
    go_wp2_with fail
    refine cL.mono ?_
    rintro e w1 ⟨sv', kv', iv', ov', rfl, hg, hM'⟩
    go_wp2_with fail
    go_ret
    exact ⟨sv', kv', iv', ov', rfl, hg, hM'⟩
  by_cases h5 : op = 5
  · subst h5
    have e1 : sChange s ⟨5, k⟩ = puts s 0 [wrap32 (s.fp + k)] := rfl
    rw [e1]
    have c6 : w.cell? ⟨mb, 6, none⟩ = some (.int .i64 s.fp) := hM.blk.cell 6
    have hfp : s.fp ≤ 1048576 := Nat.le_trans hs.fp hs.len
    have cA := fun w => add_any (s.fp : Int) k w (by unfold I32; omega) hk
    obtain ⟨x, hx⟩ : ∃ x, wrap32 ((s.fp : Int) + k) = x := ⟨_, rfl⟩
    rw [hx] at cA ⊢
    have cL := left1d (Q := Q) mb wb x code s cv sv kv iv ov w #[Value.int .i64 5, .int .i32 k] 49 hM hl
    obtain ⟨X, hX⟩ : ∃ X, puts s 0 [x] = X := ⟨_, rfl⟩
    rw [hX] at cL ⊢
    obtain ⟨f, hf⟩ : ∃ f, s.fp = f := ⟨_, rfl⟩
    rw [hf] at cA c6 hfp
    have fw : IntKind.i32.wrap (f : Int) = (f : Int) := by rw [IntKind.wrap_i32]; omega
    clear hM hM0 ho0 hs e1 hX hl hol hk kw hx hf
    go_enter Try.func62, Try.ntmps62
    go_wp2_with fail
    go_region_with (first | (refine (cA _).mono ?_; rintro e w1 ⟨rfl, rfl⟩) | (refine cL.mono ?_; rintro e w1 ⟨sv', kv', iv', ov', rfl, hg, hM'⟩))
    all_goals
      go_wp2_with fail
      go_ret
      exact ⟨_, _, _, _, rfl, by assumption, by assumption⟩
  by_cases h28 : op = 28
  · subst h28
    have e1 : sChange s ⟨28, k⟩ = sEnter s k := rfl
    rw [e1]
    have cL := enter_any (Q := Q) mb wb k code s cv sv kv iv ov _ hM0 hs hk
    obtain ⟨X, hX⟩ : ∃ X, sEnter s k = X := ⟨_, rfl⟩
    rw [hX] at cL ⊢
    clear hM hM0 ho0 hs e1 hX hl hol hk h1 h5
    go_enter Try.func62, Try.ntmps62
    go_wp2_with fail
    refine cL.mono ?_
    rintro e w1 hd
    obtain ⟨sv', kv', iv', ov', rfl, hg, hM'⟩ := hd.from HO.out
    go_wp2_with fail
    go_ret
    exact ⟨sv', kv', iv', ov', rfl, hg, hM'⟩
  by_cases h31 : op = 31
  · subst h31
    have e1 : sChange s ⟨31, k⟩ = sGetc s := rfl
    rw [e1]
    have cL := getc_any (Q := Q) mb wb code s cv sv kv iv ov _ hM0 hs
    obtain ⟨X, hX⟩ : ∃ X, sGetc s = X := ⟨_, rfl⟩
    rw [hX] at cL ⊢
    clear hM hM0 ho0 hs e1 hX hl hol hk kw h1 h5 h28
    go_enter Try.func62, Try.ntmps62
    go_wp2_with fail
    refine cL.mono ?_
    rintro e w1 hd
    obtain ⟨sv', kv', iv', ov', rfl, hg, hM'⟩ := hd.from HO.out
    go_wp2_with fail
    go_ret
    exact ⟨sv', kv', iv', ov', rfl, hg, hM'⟩
  by_cases h32 : op = 32
  · subst h32
    have e1 : sChange s ⟨32, k⟩ = puts s 0 [M.one (s.inp.length == 0)] := rfl
    rw [e1]
    have c4 : w.cell? ⟨mb, 4, none⟩ = some iv := hM.blk.cell 4
    have hiv : ∃ ao cap, iv = .slice ao s.inp.length cap := by
      obtain ⟨b, ao, cap, off, h, _⟩ := hM.inp
      exact ⟨ao, cap, h⟩
    obtain ⟨ao, cap, rfl⟩ := hiv
    by_cases hz : s.inp.length = 0
    · have cO := fun w => oneS_any true w
      have cL := left1 (Q := Q) mb wb (M.one true) code s cv sv kv _ ov w #[Value.int .i64 32, .int .i32 k] 49 hM hl
      rw [hz] at c4 ⊢
      rw [show ((0 : Nat) == 0) = true from rfl]
      obtain ⟨y, hy⟩ : ∃ y, M.one true = y := ⟨_, rfl⟩
      rw [hy] at cO cL ⊢
      obtain ⟨X, hX⟩ : ∃ X, puts s 0 [y] = X := ⟨_, rfl⟩
      rw [hX] at cL ⊢
      rw [hz] at cL
      clear hM hM0 ho0 hs e1 hX hl hol hk kw h1 h5 h28 h31 hy hz
      go_enter Try.func62, Try.ntmps62
      go_wp2_with fail
      refine (cO _).mono ?_
      rintro e w1 ⟨rfl, rfl⟩
      go_wp2_with fail
      refine cL.mono ?_
      rintro e w1 ⟨sv', kv', iv', ov', rfl, hg, hM'⟩
      go_wp2_with fail
      go_ret
      exact ⟨sv', kv', iv', ov', rfl, hg, hM'⟩
    · have cO := fun w => oneS_any false w
      have cL := left1 (Q := Q) mb wb (M.one false) code s cv sv kv _ ov w #[Value.int .i64 32, .int .i32 k] 49 hM hl
      obtain ⟨n, hn⟩ : ∃ n, s.inp.length = n := ⟨_, rfl⟩
      rw [hn] at c4 cL hz ⊢
      have hz1 : (n == 0) = false := by simpa using hz
      have hz2 : ((n : Int) == 0) = false := by simp; omega
      rw [hz1]
      obtain ⟨y, hy⟩ : ∃ y, M.one false = y := ⟨_, rfl⟩
      rw [hy] at cO cL ⊢
      obtain ⟨X, hX⟩ : ∃ X, puts s 0 [y] = X := ⟨_, rfl⟩
      rw [hX] at cL ⊢
      have HN := Lib.hid hn
      clear hM hM0 ho0 hs e1 hX hl hol hk kw h1 h5 h28 h31 hy hz hz1 hn
      go_enter Try.func62, Try.ntmps62
      go_wp2_with fail
      refine (cO _).mono ?_
      rintro e w1 ⟨rfl, rfl⟩
      go_wp2_with fail
      refine cL.mono ?_
      rintro e w1 ⟨sv', kv', iv', ov', rfl, hg, hM'⟩
      go_wp2_with fail
      go_ret
      exact ⟨sv', kv', iv', ov', rfl, hg, hM'⟩
  by_cases hop : op = 3 ∨ op = 2 ∨ op = 6 ∨ op = 14 ∨ op = 18 ∨ op = 33
  · have e1 : sChange s ⟨op, k⟩ = sOne s op := by unfold sChange; simp only [h1, h5, h28, h31, h32, if_false]; rw [if_pos hop]
    rw [e1]
    have cL := ofOne_any (Q := Q) mb wb op hop code s cv sv kv iv ov _ hM0 hs hol
    obtain ⟨X, hX⟩ : ∃ X, sOne s op = X := ⟨_, rfl⟩
    rw [hX] at cL ⊢
    clear hM hM0 ho0 hs e1 hX hl hol hk kw h1 h5 h28 h31 h32
    rcases hop with rfl | rfl | rfl | rfl | rfl | rfl
    all_goals
      go_enter Try.func62, Try.ntmps62
      go_wp2_with fail
      refine cL.mono ?_
      rintro e w1 hd
      obtain ⟨sv', kv', iv', ov', rfl, hg, hM'⟩ := hd.from HO.out
      go_wp2_with fail
      go_ret
      exact ⟨sv', kv', iv', ov', rfl, hg, hM'⟩
  have e1 : sChange s ⟨op, k⟩ = sTwo s ⟨op, k⟩ := by unfold sChange; simp only [h1, h5, h28, h31, h32, if_false]; rw [if_neg hop]
  rw [e1]
  have cL := ofTwo_any (Q := Q) mb wb ⟨op, k⟩ hk code s cv sv kv iv ov _ hM0 hs
  rw [show (⟨op, k⟩ : Cod).val = .agg #[.int .i64 op, .int .i32 k] from rfl] at cL
  obtain ⟨X, hX⟩ : ∃ X, sTwo s ⟨op, k⟩ = X := ⟨_, rfl⟩
  rw [hX] at cL ⊢
  have g1 : (op == 1) = false := ne_beq h1
  have g5 : (op == 5) = false := ne_beq h5
  have g28 : (op == 28) = false := ne_beq h28
  have g31 : (op == 31) = false := ne_beq h31
  have g32 : (op == 32) = false := ne_beq h32
  have g3 : (op == 3) = false := ne_beq (fun h => hop (by omega))
  have g2 : (op == 2) = false := ne_beq (fun h => hop (by omega))
  have g6 : (op == 6) = false := ne_beq (fun h => hop (by omega))
  have g14 : (op == 14) = false := ne_beq (fun h => hop (by omega))
  have g18 : (op == 18) = false := ne_beq (fun h => hop (by omega))
  have g33 : (op == 33) = false := ne_beq (fun h => hop (by omega))
  clear hM hM0 ho0 hs e1 hX hl hol hk kw h1 h5 h28 h31 h32 hop
  go_enter Try.func62, Try.ntmps62
  go_wp2_with fail
  refine cL.mono ?_
  rintro e w1 hd
  obtain ⟨sv', kv', iv', ov', rfl, hg, hM'⟩ := hd.from HO.out
  go_wp2_with fail
  go_ret
  exact ⟨sv', kv', iv', ov', rfl, hg, hM'⟩
end Go.Proofs.Ytbgmdckfkfkglaa
