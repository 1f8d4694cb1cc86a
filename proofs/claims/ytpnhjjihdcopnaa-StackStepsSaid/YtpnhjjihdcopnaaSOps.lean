/- The stack machine's small functions: operands, what is left, how it ends. -/
import Derived.Test.YtpnhjjihdcopnaaSRep
import Derived.Test.YtpnhjjihdcopnaaNum
import Derived.StillTailTactics
import Derived.BigRegion
import Derived.Deep.LoopGhost
import Derived.Deep.DeepCutAuto
import Derived.Deep.RegionHeld3
import Derived.Deep.Quiet
import Derived.Deep.QuietTactic
import Derived.Handy
import Derived.Outline
set_option linter.unusedSimpArgs false
set_option linter.unusedVariables false
namespace Go.Proofs.Ytpnhjjihdcopnaa
open Go.RowKit M
variable {Q : Nat → Prop}

theorem M.Blk.drewN {w : World} {b : Nat} {cs : Array Value} {t : TypeId} (h : Blk w b cs t) (q : Nat) : Blk (w.drewN q) b cs t := h
theorem M.Only.setOne {mb : Nat} {a w : World} (h : Only (M.One mb) a w) (o : Nat) (u : Value) : Only (M.One mb) a (w.setCell ⟨mb, o, none⟩ u) := h.setCell' (M.One mb) rfl u
theorem sl_of_own {w : World} {base : Nat} {e : TypeId} {size : Nat} {v : Value} {n : Nat} {xs : List Value} (h : w.ownsRow base e size v n xs) : ∃ ao cap, v = .slice ao n cap := by
  rcases h.2 with ⟨rfl, h0⟩ | ⟨g, cap, cur, rfl, _⟩
  · exact ⟨_, _, by rw [h0]⟩
  · exact ⟨_, _, rfl⟩
/-- An owned row without its end. -/
theorem own_part {w : World} {base : Nat} {e : TypeId} {size : Nat} {ao : Option Addr} {n cap : Nat} {xs : List Value} (h : w.ownsRow base e size (.slice ao n cap) n xs) (k : Nat) (hk : k ≤ n) : w.ownsRow base e size (.slice ao k cap) k (xs.take (k * size)) := by
  rcases h.2 with ⟨h1, h0⟩ | ⟨g', cap', cur, h1, hb, hg, hnc, hcm, hcs, ht⟩
  · simp only [Value.slice.injEq] at h1
    obtain ⟨rfl, rfl, rfl⟩ := h1
    have : k = 0 := by omega
    subst this
    rw [Nat.zero_mul, List.take_zero]
    exact World.ownsRow_nil _ _ _ _
  · simp only [Value.slice.injEq] at h1
    obtain ⟨rfl, _, rfl⟩ := h1
    have hm : k * size ≤ n * size := Nat.mul_le_mul_right _ hk
    refine ⟨by rw [List.length_take, h.1]; omega, Or.inr ⟨g', cap, cur, rfl, hb, hg, by omega, hcm, hcs, ?_⟩⟩
    rw [← ht, List.take_take, Nat.min_eq_left hm]
theorem Try.info21 : (Try.prog.info? 21).map (fun i => (i.zero, i.size, i.bytes)) = some (some (.int .i32 0), 1, 4) := by kernel_rfl

theorem scells_sv (cv wv sv kv iv ov x : Value) (s : SS) : (scells cv wv sv kv iv ov s).setIfInBounds 2 x = scells cv wv x kv iv ov s := rfl
theorem scells_kv (cv wv sv kv iv ov x : Value) (s : SS) : (scells cv wv sv kv iv ov s).setIfInBounds 3 x = scells cv wv sv x iv ov s := rfl
theorem scells_iv (cv wv sv kv iv ov x : Value) (s : SS) : (scells cv wv sv kv iv ov s).setIfInBounds 4 x = scells cv wv sv kv x ov s := rfl
theorem scells_ov (cv wv sv kv iv ov x : Value) (s : SS) : (scells cv wv sv kv iv ov s).setIfInBounds 5 x = scells cv wv sv kv iv x s := rfl
theorem scells_fp (cv wv sv kv iv ov : Value) (s : SS) (x : Nat) : (scells cv wv sv kv iv ov s).setIfInBounds 6 (.int .i64 x) = scells cv wv sv kv iv ov { s with fp := x } := rfl
theorem scells_top (cv wv sv kv iv ov : Value) (s : SS) (x : Nat) : (scells cv wv sv kv iv ov s).setIfInBounds 7 (.int .i64 x) = scells cv wv sv kv iv ov { s with top := x } := rfl
theorem scells_pc (cv wv sv kv iv ov : Value) (s : SS) (x : Int) : (scells cv wv sv kv iv ov s).setIfInBounds 8 (.int .i64 x) = scells cv wv sv kv iv ov { s with pc := x } := rfl
theorem scells_fin (cv wv sv kv iv ov : Value) (s : SS) (x : Nat) : (scells cv wv sv kv iv ov s).setIfInBounds 9 (.int .i64 x) = scells cv wv sv kv iv ov { s with fin := x } := rfl
theorem scells_trap (cv wv sv kv iv ov : Value) (s : SS) (x : Nat) : (scells cv wv sv kv iv ov s).setIfInBounds 10 (.int .i64 x) = scells cv wv sv kv iv ov { s with trap := x } := rfl

theorem oneS_any (b : Bool) (w : World) : Calls Try.prog 63 #[.bool b] w fun e w' => e = .returned (.int .i32 (M.one b)) ∧ w = w' := by
  cases b
  all_goals
    go_enter Try.func63, Try.ntmps63
    go_wp2
    go_ret
    exact ⟨rfl, rfl⟩

/-- An operand. -/
theorem opd_in (mb wb i : Nat) (code : List Cod) (s : SS) (cv sv kv iv ov : Value) (w : World) (hM : SAt Q w mb wb code s cv sv kv iv ov) (hn : s.ops.length ≤ 1000) (hi : i < s.ops.length) :
    Calls Try.prog 71 #[.pointer (some ⟨mb, 0, none⟩), .int .i64 i] w fun e w' => e = .returned (.tuple #[.int .i32 (opd s i), .bool true]) ∧ w = w' := by
  have c2 : w.cell? ⟨mb, 2, none⟩ = some sv := hM.blk.cell 2
  have hlt := hM.blk.lt
  have hown := hM.ops
  obtain ⟨g, cap, rfl, q1, q2, q3, q4⟩ := ownsRow_shape hown (by omega)
  have ck := hown.cellAt (s.ops.length - 1 - i) (by omega)
  rw [I32s_get (by omega)] at ck
  have ev : opd s i = s.ops.getD (s.ops.length - 1 - i) 0 := rfl
  rw [ev]
  obtain ⟨x, hx⟩ : ∃ x, s.ops.getD (s.ops.length - 1 - i) 0 = x := ⟨_, rfl⟩
  rw [hx] at ck ⊢
  obtain ⟨n, hn2⟩ : ∃ n, s.ops.length = n := ⟨_, rfl⟩
  rw [hn2] at c2 ck hn hi q2
  obtain ⟨k, hk⟩ : ∃ k, n - 1 - i = k := ⟨_, rfl⟩
  rw [hk] at ck
  have ek : (n : Int) - 1 - (i : Int) = (k : Int) := by omega
  have k0 : (0 : Int) ≤ (k : Int) := Int.natCast_nonneg _
  have k1 : (k : Int) < (n : Int) := by omega
  have k2 : decide ((k : Int) < 0) = false := by simp
  clear hM hown hx ev hn2 hk
  go_enter Try.func71, Try.ntmps71
  go_wp2_with fail
  go_ret2
  exact ⟨rfl, rfl⟩
theorem opd_out (mb wb i : Nat) (code : List Cod) (s : SS) (cv sv kv iv ov : Value) (w : World) (hM : SAt Q w mb wb code s cv sv kv iv ov) (hn : s.ops.length ≤ 1000) (hi : s.ops.length ≤ i) (hi2 : i ≤ 1) :
    Calls Try.prog 71 #[.pointer (some ⟨mb, 0, none⟩), .int .i64 i] w fun e w' => e = .returned (.tuple #[.int .i32 0, .bool false]) ∧ w = w' := by
  have c2 : w.cell? ⟨mb, 2, none⟩ = some sv := hM.blk.cell 2
  have hlt := hM.blk.lt
  obtain ⟨ao, cap, rfl⟩ := sl_of_own hM.ops
  obtain ⟨n, hn2⟩ : ∃ n, s.ops.length = n := ⟨_, rfl⟩
  rw [hn2] at c2 hn hi
  have ek : (n : Int) - 1 - (i : Int) < 0 := by omega
  clear hM hn2
  go_enter Try.func71, Try.ntmps71
  go_wp2_with fail
  go_ret2
  exact ⟨rfl, rfl⟩

/-- Operands are dropped. -/
theorem drop_any (mb wb n : Nat) (code : List Cod) (s : SS) (cv sv kv iv ov : Value) (w : World) (hM : SAt Q w mb wb code s cv sv kv iv ov) (hl : s.ops.length ≤ 1000) (hn : n ≤ s.ops.length) :
    Calls Try.prog 72 #[.pointer (some ⟨mb, 0, none⟩), .int .i64 n] w fun e w' => ∃ sv', e = .returned (.tuple #[]) ∧ Only (M.One mb) w w' ∧ sv'.ownBlock = sv.ownBlock ∧ SAt Q w' mb wb code { s with ops := s.ops.take (s.ops.length - n) } cv sv' kv iv ov := by
  have c2 : w.cell? ⟨mb, 2, none⟩ = some sv := hM.blk.cell 2
  have f2 := hM.blk.free 2
  have hlt := hM.blk.lt
  obtain ⟨ao, cap, rfl⟩ := sl_of_own hM.ops
  have hcap : s.ops.length ≤ cap := by
    rcases hM.ops.2 with ⟨h1, h0⟩ | ⟨g', cap', cur, h1, hb, hg, hnc, _⟩
    · omega
    · simp only [Value.slice.injEq] at h1
      obtain ⟨_, _, rfl⟩ := h1
      exact hnc
  have hpart := own_part hM.ops (s.ops.length - n) (by omega)
  have hob : (Value.slice ao (s.ops.length - n) cap).ownBlock = (Value.slice ao s.ops.length cap).ownBlock := by cases ao <;> rfl
  have hB := hM.blk.setCell 2 (.slice ao (s.ops.length - n) cap)
  rw [scells_sv] at hB
  have ho : Only (M.One mb) w (w.setCell ⟨mb, 2, none⟩ (.slice ao (s.ops.length - n) cap)) := M.Only.setOne (Only.refl _ _) _ _
  have hM2 : SAt Q (w.setCell ⟨mb, 2, none⟩ (.slice ao (s.ops.length - n) cap)) mb wb code { s with ops := s.ops.take (s.ops.length - n) } cv (.slice ao (s.ops.length - n) cap) kv iv ov := by
    have q : ∀ k, M.One mb k → OwnQ Q mb wb (Value.slice ao s.ops.length cap).ownBlock kv.ownBlock ov.ownBlock k := fun k hk => Or.inl (Or.inl hk)
    have f : ∀ {x : Option Nat}, x ≠ some mb → ∀ k, x = some k → ¬ M.One mb k := fun hx k hk h1 => hx (by rw [hk, show k = mb from h1])
    refine ⟨hB, hM.wrd.kept ho (fun e => hM.five.mw e.symm), ?_, ownsRow_only hM.cls ho (fun k hk => f hM.five.km k hk), ownsRow_only hM.out ho (fun k hk => f hM.five.om k hk), ?_, ?_, ?_⟩
    · have h1 := ownsRow_only hpart ho (fun k hk => f hM.five.sm k (by rw [← hob]; exact hk))
      rw [Nat.mul_one, I32s_take] at h1
      show World.ownsRow _ _ _ _ _ (s.ops.take (s.ops.length - n)).length _
      rw [List.length_take, Nat.min_eq_left (by omega)]
      exact h1
    · rw [hob]; exact hM.cod.kept ho q
    · rw [hob]; exact hM.inp.kept ho q
    · rw [hob]; exact hM.five
  have HM2 := Lib.hid hM2
  have HO := Lib.hid ho
  have HOB := Lib.hid hob
  obtain ⟨k, hk⟩ : ∃ k, s.ops.length - n = k := ⟨_, rfl⟩
  rw [hk] at HM2 HO HOB ⊢
  obtain ⟨m, hm⟩ : ∃ m, s.ops.length = m := ⟨_, rfl⟩
  rw [hm] at c2 hl hn hcap hk HOB
  have ek : (m : Int) - (n : Int) = (k : Int) := by omega
  have k0 : (0 : Int) ≤ (k : Int) := Int.natCast_nonneg _
  have k1 : (k : Int) ≤ (cap : Int) := by omega
  clear hM hpart hB ho hM2 hob hm hk
  go_enter Try.func72, Try.ntmps72
  go_wp2_with fail
  go_region
  go_end0
  exact ⟨_, rfl, HO.out.drew, by cases ao <;> rfl, HM2.out.quiet (Only.refl Nil _).drew⟩

theorem puts_some {s : SS} {n : Nat} {l : List Int} (h : s.ops.length - n + l.length ≤ 1000) : puts s n l = some { s with ops := s.ops.take (s.ops.length - n) ++ l } := by unfold puts; rw [if_pos h]
theorem puts_none {s : SS} {n : Nat} {l : List Int} (h : ¬ s.ops.length - n + l.length ≤ 1000) : puts s n l = none := by unfold puts; rw [if_neg h]

set_option maxRecDepth 10000 in
set_option maxHeartbeats 1600000 in
/-- Operands are left. -/
theorem leaves_any (mb wb n lb : Nat) (l : List Int) (lv : Value) (code : List Cod) (s : SS) (cv sv kv iv ov : Value) (w : World) (hM : SAt Q w mb wb code s cv sv kv iv ov) (hl : s.ops.length ≤ 1000) (hn : n ≤ s.ops.length) (hs : Src w lb lv (I32s l)) (hll : l.length ≤ 2) (hlb : 0 < l.length → lb ≠ mb) :
    Calls Try.prog 59 #[.pointer (some ⟨mb, 0, none⟩), .int .i64 n, lv] w fun e w' => ∃ sv', e = .returned (.bool (puts s n l).isSome) ∧ Gone w w' mb wb sv kv ov sv' kv ov ∧ SAt Q w' mb wb code ((puts s n l).getD s) cv sv' kv iv ov := by
  have c2 : w.cell? ⟨mb, 2, none⟩ = some sv := hM.blk.cell 2
  have hlt := hM.blk.lt
  obtain ⟨i0, hi0, hz0, hz1, hz2⟩ := info_parts Try.info21
  obtain ⟨ao, cap, hsv⟩ := sl_of_own hM.ops
  have cD := fun (w' : World) (ho : Only Nil w w') => drop_any (Q := Q) mb wb n code s cv sv kv iv ov w' (hM.quiet ho) hl hn
  subst hsv
  obtain ⟨al, lcap, loff, rfl, z2, z3, z4⟩ := hs
  have hs : Src w lb (.slice al (I32s l).length lcap) (I32s l) := ⟨al, lcap, loff, rfl, z2, z3, z4⟩
  have HS := Lib.hid hs
  clear z2 z3 z4 hs
  rw [I32s_len] at HS ⊢
  obtain ⟨m, hm⟩ : ∃ m, s.ops.length = m := ⟨_, rfl⟩
  obtain ⟨q, hq⟩ : ∃ q, l.length = q := ⟨_, rfl⟩
  have HMM := Lib.hid hm
  have HQ := Lib.hid hq
  rw [hm] at c2 hl hn cD
  rw [hq] at HS hll hlb ⊢
  have ek : (m : Int) - (n : Int) + (q : Int) = ((m - n + q : Nat) : Int) := by omega
  by_cases hbig : m - n + q ≤ 1000
  · have hp := puts_some (s := s) (n := n) (l := l) (by rw [hm, hq]; exact hbig)
    rw [hp]
    simp only [Option.isSome_some, Option.getD_some]
    have t1 : decide ((1000 : Int) < (m : Int) - (n : Int) + (q : Int)) = false := by simp; omega
    have t2 : (m : Int) - (n : Int) + (q : Int) ≤ 1000 := by omega
    have HM := Lib.hid hM
    clear hM hm hq hp ek
    go_enter Try.func59, Try.ntmps59
    go_wp2_with fail
    refine (cD _ (Only.refl _ _)).mono ?_
    rintro e w1 ⟨sv1, rfl, ho1, hob1, hM1⟩
    clear cD
    have d2 : w1.cell? ⟨mb, 2, none⟩ = some sv1 := hM1.blk.cell 2
    have e2 := hM1.blk.free 2
    have hlt1 := hM1.blk.lt
    have hown1 := hM1.ops
    have hs1 := HS.out.kept ho1 (fun h0 hx => hlb (by rw [I32s_len, HQ.out] at h0; exact h0) hx)
    obtain ⟨k, hk⟩ : ∃ k, (s.ops.take (m - n)).length = k := ⟨_, rfl⟩
    have hkv : k = m - n := by rw [← hk, List.length_take, HMM.out]; omega
    have hown1' : w1.ownsRow 0 21 1 sv1 k (I32s (s.ops.take (m - n))) := by rw [← hk]; exact hown1
    have H1 := Lib.hid hM1
    have HO1 := Lib.hid ho1
    have HK := Lib.hid hk
    obtain ⟨a1, cap1, rfl⟩ := sl_of_own hown1'
    have HKV := Lib.hid hkv
    have hk9 : k ≤ 1000 := by omega
    have hkq : k + q ≤ 1000 := by omega
    clear hM1 ho1 hown1 hk c2 hkv
    go_wp2_with (at_builtin; go_loud (refine wpList_append_src rfl _ _ 57 rfl 0 21 i0 (.int .i32 0) 4 Try.underlying57 hi0 hz0 hz1 hz2 rfl _ _ _ rfl hown1' lb _ (I32s l) rfl hs1 (I32s_one _) ?c1 ?c2 ?c3 ?_))
    case c1 => rw [I32s_len, HQ.out]; simp [maxLen]; omega
    case c2 => rw [I32s_len, HQ.out]; omega
    case c3 => exact Nat.zero_le _
    intro v2 w2 hown2 hv2 ho2
    have hl2 : (s.ops.take (m - n) ++ l).length = k + (I32s l).length := by rw [List.length_append, HK.out, I32s_len]
    rw [← I32s_append, ← hl2] at hown2
    have hA := SAt.newOps (l := s.ops.take (m - n) ++ l) H1.out (ho2.mono (fun j hj => by show some j = _; rw [hob1]; exact hj)) hown2 (by rw [hob1]; exact hv2)
    have HA := Lib.hid hA
    have f9 := H1.out.blk.kept ho2 (fun e => H1.out.five.sm (by rw [hob1]; exact e.symm))
    have e9 := f9.free 2
    have g9 : w2.cell? ⟨mb, 2, none⟩ = some (.slice a1 k cap1) := f9.cell 2
    have hlt9 := f9.lt
    have hg : Gone w w1 mb wb (.slice ao s.ops.length cap) kv ov (.slice a1 k cap1) kv ov := ⟨HO1.out.mono (fun _ h => Or.inl h), Or.inl (by rw [hob1]; cases ao <;> rfl), Or.inl rfl, Or.inl rfl⟩
    have HG := Lib.hid hg
    obtain ⟨N, hN⟩ : ∃ N, (s.ops.take (m - n) ++ l).length = N := ⟨_, rfl⟩
    rw [hN] at hown2
    obtain ⟨a9, c9, rfl⟩ := sl_of_own hown2
    clear hN hl2
    clear hA f9 hg hown2 hv2 ho2 hown1' d2 e2 hs1 hob1
    go_wp2_with fail
    go_ret
    have hh := HA.out
    have e1 : s.ops.take (s.ops.length - n) ++ l = s.ops.take (m - n) ++ l := by rw [HMM.out]
    rw [e1]
    exact ⟨rfl, _, HG.out.trans hh.2, hh.1⟩
  · rw [puts_none (by rw [hm, hq]; exact hbig)]
    simp only [Option.isSome_none, Option.getD_none]
    have t1 : decide ((1000 : Int) < (m : Int) - (n : Int) + (q : Int)) = true := by simp; omega
    have t2 : (1000 : Int) < (m : Int) - (n : Int) + (q : Int) := by omega
    have HM := Lib.hid hM
    clear hM hm hq ek cD
    go_enter Try.func59, Try.ntmps59
    go_wp2_with fail
    go_ret
    exact ⟨_, ret_eq rfl, Gone.of_nil (Only.refl _ _), HM.out⟩

set_option maxHeartbeats 800000 in
/-- How a run ends. -/
theorem finishS_any (mb wb t : Nat) (code : List Cod) (s : SS) (cv sv kv iv ov : Value) (w : World) (hM : SAt Q w mb wb code s cv sv kv iv ov) (ht : t ≤ 15) :
    Calls Try.prog 33 #[.pointer (some ⟨mb, 0, none⟩), .int .i64 t] w fun e w' => e = .returned (.tuple #[]) ∧ Only (M.One mb) w w' ∧ SAt Q w' mb wb code (sEnded s t) cv sv kv iv ov := by
  have hB := hM.blk
  have f9 := hB.free 9
  have f10 := hB.free 10
  have c9 : w.cell? ⟨mb, 9, none⟩ = some (.int .i64 s.fin) := hB.cell 9
  have c10 : w.cell? ⟨mb, 10, none⟩ = some (.int .i64 s.trap) := hB.cell 10
  have hlt := hB.lt
  have HM := Lib.hid hM
  by_cases h0 : t = 0
  · subst h0
    have h1 := (hB.setCell 9 (.int .i64 (1 : Nat))).setCell 10 (.int .i64 (0 : Nat))
    rw [scells_fin, scells_trap] at h1
    have H1 := Lib.hid h1
    clear h1 hM hB
    go_enter Try.func33, Try.ntmps33
    go_wp2_with fail
    go_end0
    have ho : Only (M.One mb) w ((w.setCell ⟨mb, 9, none⟩ (.int .i64 1)).setCell ⟨mb, 10, none⟩ (.int .i64 0)) := M.Only.setOne (M.Only.setOne (Only.refl _ _) _ _) _ _
    exact ⟨rfl, ho, HM.out.own ho H1.out rfl rfl rfl rfl rfl⟩
  · have hne : ((t : Int) != 0) = true := by simp; omega
    have h1 := ((hB.setCell 9 (.int .i64 (1 : Nat))).setCell 10 (.int .i64 t)).setCell 9 (.int .i64 (2 : Nat))
    rw [scells_fin, scells_trap, scells_fin] at h1
    have e : sEnded s t = { s with fin := 2, trap := t } := by unfold sEnded; rw [if_neg h0]
    rw [e]
    have H1 := Lib.hid h1
    clear h1 h0 e hM hB
    go_enter Try.func33, Try.ntmps33
    go_wp2_with fail
    go_end0
    have ho : Only (M.One mb) w (((w.setCell ⟨mb, 9, none⟩ (.int .i64 1)).setCell ⟨mb, 10, none⟩ (.int .i64 t)).setCell ⟨mb, 9, none⟩ (.int .i64 2)) := M.Only.setOne (M.Only.setOne (M.Only.setOne (Only.refl _ _) _ _) _ _) _ _
    exact ⟨rfl, ho, HM.out.own ho H1.out rfl rfl rfl rfl rfl⟩

/-- A word. -/
theorem wordS_in (mb wb k : Nat) (code : List Cod) (s : SS) (cv sv kv iv ov : Value) (w : World) (hM : SAt Q w mb wb code s cv sv kv iv ov) (hl : s.mem.length ≤ 1048576) (hk : k < s.mem.length) :
    Calls Try.prog 40 #[.pointer (some ⟨mb, 0, none⟩), .int .i64 k] w fun e w' => e = .returned (.tuple #[.int .i32 (s.mem.getD k 0), .bool true]) ∧ w = w' := by
  have c1 : w.cell? ⟨mb, 1, none⟩ = some (.slice (some ⟨wb, 0, none⟩) s.mem.length s.mem.length) := hM.blk.cell 1
  have cw : w.cell? ⟨wb, k, none⟩ = some (.int .i32 (s.mem.getD k 0)) := by
    rw [hM.wrd.cell k, List.getElem?_toArray]; exact I32s_get hk
  have hlt := hM.blk.lt
  obtain ⟨n, hn⟩ : ∃ n, s.mem.length = n := ⟨_, rfl⟩
  rw [hn] at c1 hl hk
  have k0 : (0 : Int) ≤ (k : Int) := Int.natCast_nonneg _
  have k1 : (k : Int) < (n : Int) := by omega
  have k2 : decide ((k : Int) < 0) = false := by simp
  have k3 : decide ((n : Int) ≤ (k : Int)) = false := by simp; omega
  clear hM hn
  go_enter Try.func40, Try.ntmps40
  go_wp2_with fail
  go_ret2
  exact ⟨rfl, rfl⟩
theorem wordS_out (mb wb : Nat) (k : Int) (code : List Cod) (s : SS) (cv sv kv iv ov : Value) (w : World) (hM : SAt Q w mb wb code s cv sv kv iv ov) (hl : s.mem.length ≤ 1048576) (hk : ¬ (0 ≤ k ∧ k < s.mem.length)) :
    Calls Try.prog 40 #[.pointer (some ⟨mb, 0, none⟩), .int .i64 k] w fun e w' => e = .returned (.tuple #[.int .i32 0, .bool false]) ∧ w = w' := by
  have c1 : w.cell? ⟨mb, 1, none⟩ = some (.slice (some ⟨wb, 0, none⟩) s.mem.length s.mem.length) := hM.blk.cell 1
  have hlt := hM.blk.lt
  obtain ⟨n, hn⟩ : ∃ n, s.mem.length = n := ⟨_, rfl⟩
  rw [hn] at c1 hl hk
  clear hM hn
  by_cases h0 : k < 0
  · clear hk
    go_enter Try.func40, Try.ntmps40
    go_wp2_with fail
    go_ret2
    exact ⟨rfl, rfl⟩
  · have k2 : decide (k < 0) = false := by simp; omega
    have k4 : (n : Int) ≤ k := by omega
    clear hk
    go_enter Try.func40, Try.ntmps40
    go_wp2_with fail
    go_ret2
    exact ⟨rfl, rfl⟩
theorem pcS_any (mb wb : Nat) (code : List Cod) (s : SS) (cv sv kv iv ov : Value) (w : World) (hM : SAt Q w mb wb code s cv sv kv iv ov) :
    Calls Try.prog 28 #[.pointer (some ⟨mb, 0, none⟩)] w fun e w' => e = .returned (.int .i64 s.pc) ∧ w = w' := by
  have c8 : w.cell? ⟨mb, 8, none⟩ = some (.int .i64 s.pc) := hM.blk.cell 8
  have hlt := hM.blk.lt
  clear hM
  go_enter Try.func28, Try.ntmps28
  go_wp2
  go_ret
  exact ⟨rfl, rfl⟩
theorem frameS_any (mb wb : Nat) (code : List Cod) (s : SS) (cv sv kv iv ov : Value) (w : World) (hM : SAt Q w mb wb code s cv sv kv iv ov) :
    Calls Try.prog 36 #[.pointer (some ⟨mb, 0, none⟩)] w fun e w' => e = .returned (.tuple #[.int .i64 s.fp, .int .i64 s.top]) ∧ Only Nil w w' := by
  have c6 : w.cell? ⟨mb, 6, none⟩ = some (.int .i64 s.fp) := hM.blk.cell 6
  have c7 : w.cell? ⟨mb, 7, none⟩ = some (.int .i64 s.top) := hM.blk.cell 7
  have hlt := hM.blk.lt
  clear hM
  go_enter Try.func36, Try.ntmps36
  go_wp2_with fail
  go_quiet (fail)
  go_wp2_with fail
  go_ret2
  exact ⟨rfl, by (repeat with_reducible first | exact Only.refl _ _ | refine Only.drewN ?_ _ | refine Only.drew ?_)⟩
end Go.Proofs.Ytpnhjjihdcopnaa
