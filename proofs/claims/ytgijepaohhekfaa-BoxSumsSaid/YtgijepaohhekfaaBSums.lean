/- The walk of the law BoxSums. -/
import Derived.Test.YtgijepaohhekfaaBBack
import Derived.BigRegion
import Derived.BigQuiet
namespace Go.Proofs.Ytgijepaohhekfaa
open Go.RowKit M

theorem swap_form (B : List Nat) (i p q : Nat) (hp : B[i]? = some p) (hq : B[i + 1]? = some q) :
    ∃ l m, B = l ++ p :: q :: m ∧ (B.set i q).set (i + 1) p = l ++ q :: p :: m := by
  have h1 := (List.getElem?_eq_some_iff.1 hp)
  have h2 := (List.getElem?_eq_some_iff.1 hq)
  obtain ⟨h1, h3⟩ := h1
  obtain ⟨h2, h4⟩ := h2
  have hl : (B.take i).length = i := by simp; omega
  have e : B = B.take i ++ p :: q :: B.drop (i + 1 + 1) := by
    conv => lhs; rw [← List.take_append_drop i B, List.drop_eq_getElem_cons h1, List.drop_eq_getElem_cons h2, h3, h4]
  refine ⟨B.take i, B.drop (i + 1 + 1), e, ?_⟩
  generalize B.take i = l at *
  generalize B.drop (i + 1 + 1) = m at *
  subst e
  rw [List.set_append_right _ _ (by omega), hl, Nat.sub_self, List.set_cons_zero, List.set_append_right _ _ (by omega), hl, show i + 1 - i = 1 by omega]
  rfl
theorem swap_sum (B : List Nat) (i p q : Nat) (hp : B[i]? = some p) (hq : B[i + 1]? = some q) (hp8 : p < 256) (hq8 : q < 256) :
    sumOf ((B.set i q).set (i + 1) p) = sumOf B ↔ p = q := by
  obtain ⟨l, m, e1, e2⟩ := swap_form B i p q hp hq
  rw [e2]
  conv => lhs; rhs; rw [e1]
  exact sumOf_swap l m p q hp8 hq8
theorem set_lt {B : List Nat} (h : ∀ x ∈ B, x < 256) (i z : Nat) (hz : z < 256) : ∀ x ∈ B.set i z, x < 256 := fun y hy => by
  rcases List.mem_or_eq_of_mem_set hy with h1 | h1
  · exact h y h1
  · omega

set_option maxRecDepth 10000 in
set_option maxHeartbeats 3200000 in
theorem sums_any (ab : Option Addr) (nb capb t x : Nat) (B : List Nat) (w : World) (ht : t < 65536) (hx : x < 256)
    (hb : Row w (.slice ab nb capb) B) (hBl : B.length = nb) :
    Calls Try.prog 6 #[.slice ab nb capb, .int .u16 t, .int .u8 x] w fun e w' => e = .returned (.bool true) ∧ Only Nil w w' := by
  have HB := Lib.hid hb
  have HBL := Lib.hid hBl
  clear hb hBl
  by_cases h500 : 500 < nb
  · go_enter Try.func6, Try.ntmps6
    go_wp2_with (go_at_call 7; refine (known_any w).mono ?_; rintro e w1 ⟨rfl, ho1⟩)
    go_ret
    exact ⟨rfl, ho1⟩
  · have t500 : decide ((500 : Int) < (nb : Int)) = false := by simp; omega
    by_cases h2 : nb < 2
    · have t2 : decide ((nb : Int) < 2) = true := by simp; omega
      go_enter Try.func6, Try.ntmps6
      go_wp2_with (go_at_call 7; refine (known_any w).mono ?_; rintro e w1 ⟨rfl, ho1⟩)
      go_ret
      exact ⟨rfl, ho1⟩
    · have t2 : decide ((nb : Int) < 2) = false := by simp; omega
      by_cases hx0 : x = 0
      · have ex0 : ((x : Int) == 0) = true := by rw [beq_iff_eq]; omega
        clear hx0
        go_enter Try.func6, Try.ntmps6
        go_wp2_with (go_at_call 7; refine (known_any w).mono ?_; rintro e w1 ⟨rfl, ho1⟩)
        go_ret
        exact ⟨rfl, ho1⟩
      · have ex0 : ((x : Int) == 0) = false := by rw [beq_eq_false_iff_ne]; omega
        have hB8 : ∀ x ∈ B, x < 256 := by
          obtain ⟨_, _, _, _, _, _, _, _, _, _, h8⟩ := HB.out
          exact h8
        obtain ⟨i, hi⟩ : ∃ i, t % (nb - 1) = i := ⟨_, rfl⟩
        have hiL : i + 1 < nb := by
          have := Nat.mod_lt t (show 0 < nb - 1 by omega)
          omega
        have ei : (t : Int) % ((nb : Int) - 1) = (i : Int) := by rw [show ((nb : Int) - 1) = ((nb - 1 : Nat) : Int) by omega, ← hi]; rfl
        have HB8 := Lib.hid hB8
        clear hi hB8
        obtain ⟨i0, hi0, hz0, hz1, hz2⟩ := info_parts Try.info5
        go_enter Try.func6, Try.ntmps6
        go_upto_region 5 with (go_at_call 7; refine (known_any w).mono ?_; rintro e w1 ⟨rfl, ho1⟩)
        obtain ⟨bb, hsb⟩ := (HB.out.kept ho1).src
        have hsz1 := ho1.size
        go_wp2_with (at_builtin; refine wpList_append_src rfl _ _ 22 rfl w.heap.size 5 i0 (.int .u8 0) 1 Try.underlying22 hi0 hz0 hz1 hz2 rfl _ _ _ rfl (World.ownsRow_nil _ _ _ _) bb _ (U8s B) rfl hsb (U8s_one _) ?c1 ?c2 ?c3 ?_)
        case c1 => rw [U8s_len, HBL.out]; simp [maxLen]; omega
        case c2 => rw [U8s_len, HBL.out]; omega
        case c3 => omega
        intro v2 w2 hown2 _ ho2'
        have ho2 := ho1.trans (ho2'.mono (T := Nil) (fun k h => by cases h)) (fun _ _ h => h)
        rw [U8s_len, HBL.out] at hown2
        have hown2 : w2.ownsRow w.heap.size 5 1 v2 nb (U8s B) := by simpa using hown2
        obtain ⟨g, cap, rfl, hg1, hcp1, hcp2, hg2⟩ := ownsRow_shape hown2 (by omega)
        clear hsb ho2'
        obtain ⟨p, hp⟩ : ∃ p, B[i]? = some p := ⟨_, List.getElem?_eq_getElem (by rw [HBL.out]; omega)⟩
        obtain ⟨q, hq⟩ : ∃ q, B[i + 1]? = some q := ⟨_, List.getElem?_eq_getElem (by rw [HBL.out]; omega)⟩
        have cp := hown2.cellAt i (by omega)
        have cq := hown2.cellAt (i + 1) (by omega)
        have fp := hown2.frozenAt i
        have fq := hown2.frozenAt (i + 1)
        rw [show (U8s B)[i]? = some (.int .u8 p) by simp [U8s, hp]] at cp
        rw [show (U8s B)[i + 1]? = some (.int .u8 q) by simp [U8s, hq]] at cq
        have HOWN2 := Lib.hid hown2
        have HP := Lib.hid hp
        have HQ := Lib.hid hq
        clear hown2 hp hq
        go_upto_region 7 with fail
        rw [ei]
        clear ei
        have i1 : (0 : Int) ≤ (i : Int) := by omega
        have i2 : (i : Int) < (nb : Int) := by omega
        have i3 : (i : Int) + 1 < (nb : Int) := by omega
        have iw : IntKind.i64.wrap ((i : Int) + 1) = (i : Int) + 1 := by rw [IntKind.wrap_i64]; omega
        go_region
        have hp8 := HB8.out p (List.mem_of_getElem? HP.out)
        have hq8 := HB8.out q (List.mem_of_getElem? HQ.out)
        have hst := (((HOWN2.out.stored i (.int .u8 q)).1).stored (i + 1) (.int .u8 p)).1
        have hEs : U8s ((B.set i q).set (i + 1) p) = ((U8s B).set i (.int .u8 q)).set (i + 1) (.int .u8 p) := by simp [U8s, List.map_set]
        rw [← hEs] at hst
        have hst : (((w2.setCell ⟨g, i, none⟩ (.int .u8 q)).setCell ⟨g, i + 1, none⟩ (.int .u8 p)).drew).ownsRow w.heap.size 5 1 (.slice (some ⟨g, 0, none⟩) nb cap) nb (U8s ((B.set i q).set (i + 1) p)) := hst
        have ho3 : Only Nil w (((w2.setCell ⟨g, i, none⟩ (.int .u8 q)).setCell ⟨g, i + 1, none⟩ (.int .u8 p)).drew) :=
          ((ho2.setCell (p := ⟨g, i, none⟩) (fun h => absurd h (by simp; omega)) _).setCell (p := ⟨g, i + 1, none⟩) (fun h => absurd h (by simp; omega)) _).drew
        obtain ⟨w3, hw3⟩ : ∃ w3, ((w2.setCell ⟨g, i, none⟩ (.int .u8 q)).setCell ⟨g, i + 1, none⟩ (.int .u8 p)).drew = w3 := ⟨_, rfl⟩
        rw [hw3] at hst ho3 ⊢
        have hswap := swap_sum B i p q HP.out HQ.out hp8 hq8
        have hC8 := set_lt (set_lt HB8.out i q hq8) (i + 1) p hp8
        have hCi : ((B.set i q).set (i + 1) p)[i]? = some q := by
          rw [List.getElem?_set_ne (by omega), List.getElem?_set_self (by rw [HBL.out]; omega)]
        have hCj : ((B.set i q).set (i + 1) p)[i + 1]? = some p := by
          rw [List.getElem?_set_self (by rw [List.length_set, HBL.out]; omega)]
        have hCl : ((B.set i q).set (i + 1) p).length = nb := by rw [List.length_set, List.length_set, HBL.out]
        obtain ⟨C, hC⟩ : ∃ C, (B.set i q).set (i + 1) p = C := ⟨_, rfl⟩
        rw [hC] at hst hswap hC8 hCi hCj hCl
        have HC := Lib.hid hst
        have HSWAP := Lib.hid hswap
        have HC8 := Lib.hid hC8
        have HCI := Lib.hid hCi
        have HCJ := Lib.hid hCj
        have HCL := Lib.hid hCl
        have hg3 : g < w3.heap.size := by
          have := (hst.lt g rfl).2
          exact this
        clear hst hEs hw3 hswap hC8 hC hCi hCj hCl cp cq fp fq HOWN2 ho2 i1 i2 i3 iw
        obtain ⟨bb3, hsb3⟩ := (HB.out.kept ho3).src
        have hsz3 := ho3.size
        go_upto_region 8 with fail
        go_wp2_with (at_builtin; refine wpList_append_src rfl _ _ 22 rfl w3.heap.size 5 i0 (.int .u8 0) 1 Try.underlying22 hi0 hz0 hz1 hz2 rfl _ _ _ rfl (World.ownsRow_nil _ _ _ _) bb3 _ (U8s B) rfl hsb3 (U8s_one _) ?d1 ?d2 ?d3 ?_)
        case d1 => rw [U8s_len, HBL.out]; simp [maxLen]; omega
        case d2 => rw [U8s_len, HBL.out]; omega
        case d3 => omega
        intro v4 w4 hown4 _ ho4'
        have ho34 := ho4'.mono (T := Nil) (fun k h => by cases h)
        have ho4 := ho3.trans ho34 (fun _ _ h => h)
        rw [U8s_len, HBL.out] at hown4
        have hown4 : w4.ownsRow w3.heap.size 5 1 v4 nb (U8s B) := by simpa using hown4
        obtain ⟨g4, cap4, rfl, hg41, hcp41, hcp42, hg42⟩ := ownsRow_shape hown4 (by omega)
        have hC4 := ownsRow_only HC.out ho34 (fun _ _ h => h)
        have cd := hown4.cellAt i (by omega)
        have fd := hown4.frozenAt i
        rw [show (U8s B)[i]? = some (.int .u8 p) by simp [U8s, HP.out]] at cd
        obtain ⟨z, hz'⟩ : ∃ z, p ^^^ x = z := ⟨_, rfl⟩
        have ez : bits BinOp.xor IntKind.u8 (p : Int) (x : Int) = (z : Int) := by rw [u8_xor_nat p x hp8 hx, hz']
        have hz8 : z < 256 := by rw [← hz']; exact Nat.xor_lt_two_pow (n := 8) hp8 hx
        have hne := sumOf_set B i p z HP.out hp8 hz8 (by rw [← hz']; exact xor_ne p x hx0)
        have hD8 := set_lt HB8.out i z hz8
        have hst := (hown4.stored i (.int .u8 z)).1
        have hEs : U8s (B.set i z) = (U8s B).set i (.int .u8 z) := by simp [U8s, List.map_set]
        rw [← hEs] at hst
        have hC5 := ownsRow_set_other hC4 ⟨g4, i, none⟩ (.int .u8 z) (by
          intro h
          have h : some g = some g4 := h
          injection h with h
          omega)
        have ho5 : Only Nil w (w4.setCell ⟨g4, i, none⟩ (.int .u8 z)) := ho4.setCell (p := ⟨g4, i, none⟩) (fun h => absurd h (by simp; omega)) _
        have HST := Lib.hid hst
        have HC5 := Lib.hid hC5
        have HD8 := Lib.hid hD8
        have HNE := Lib.hid hne
        clear hst hEs hz' hne hD8 hC4 hC5 hown4 hsb3 ho4' ho34 hx0
        go_upto_region 10 with fail
        obtain ⟨w5, hw5⟩ : ∃ w5, w4.setCell ⟨g4, i, none⟩ (.int .u8 z) = w5 := ⟨_, rfl⟩
        rw [hw5] at ho5 HST HC5 ⊢
        clear hw5 cd fd ez ho4
        have ci := HC5.out.cellAt i (by omega)
        have cj := HC5.out.cellAt (i + 1) (by omega)
        rw [show (U8s C)[i]? = some (.int .u8 q) by simp [U8s, HCI.out]] at ci
        rw [show (U8s C)[i + 1]? = some (.int .u8 p) by simp [U8s, HCJ.out]] at cj
        have sC := fun n => flip_q (sum_any _ C (w5.drewN n) ((Row.of_own HC5.out HC8.out).kept (only_drewN (Only.refl _ _) n)))
        have sB := fun n => flip_q (sum_any _ B (w5.drewN n) ((HB.out.kept ho5).kept (only_drewN (Only.refl _ _) n)))
        have sD := fun n => flip_q (sum_any _ (B.set i z) (w5.drewN n) ((Row.of_own HST.out HD8.out).kept (only_drewN (Only.refl _ _) n)))
        have sN := fun n => flip_q (sum_any _ [] (w5.drewN n) (nil_row _))
        rw [show ((sumOf [] : Nat) : Int) = 1 by rfl] at sN
        obtain ⟨SC, hSC⟩ : ∃ S, sumOf C = S := ⟨_, rfl⟩
        obtain ⟨SB, hSB⟩ : ∃ S, sumOf B = S := ⟨_, rfl⟩
        obtain ⟨SD, hSD⟩ : ∃ S, sumOf (B.set i z) = S := ⟨_, rfl⟩
        simp only [hSC, hSB, hSD] at sC sB sD
        have hne := HNE.out
        have hsw := HSWAP.out
        rw [hSD, hSB] at hne
        rw [hSC, hSB] at hsw
        have SCc := Lib.hid sC
        have SBc := Lib.hid sB
        have SDc := Lib.hid sD
        have SNc := Lib.hid sN
        have i1 : (0 : Int) ≤ (i : Int) := by omega
        have i2 : (i : Int) < (nb : Int) := by omega
        have i3 : (i : Int) + 1 < (nb : Int) := by omega
        have iw : IntKind.i64.wrap ((i : Int) + 1) = (i : Int) + 1 := by rw [IntKind.wrap_i64]; omega
        have eD : ((SD : Int) != (SB : Int)) = true := by rw [bne_iff_ne]; omega
        have hpq : (((SC : Int) == (SB : Int)) = true ∧ ((q : Int) == (p : Int)) = true) ∨ (((SC : Int) == (SB : Int)) = false ∧ ((q : Int) == (p : Int)) = false) := by
          by_cases h : p = q
          · left
            exact ⟨by rw [beq_iff_eq, hsw.2 h], by rw [beq_iff_eq, h]⟩
          · right
            exact ⟨by rw [beq_eq_false_iff_ne]; intro e; exact h (hsw.1 (by omega)), by rw [beq_eq_false_iff_ne]; omega⟩
        clear sC sB sD sN hSC hSB hSD hne hsw HNE HSWAP
        rcases hpq with ⟨e1, e2⟩ | ⟨e1, e2⟩
        all_goals
          go_quiet (first
            | (go_at_call_of 11 (Value.slice (some (Addr.mk g 0 none)) nb cap); exact Calls.quiet_of_same (SCc.out _))
            | (go_at_call_of 11 (Value.slice (some (Addr.mk g4 0 none)) nb cap4); exact Calls.quiet_of_same (SDc.out _))
            | (go_at_call_of 11 (Value.slice ab nb capb); exact Calls.quiet_of_same (SBc.out _))
            | (go_at_call 11; exact Calls.quiet_of_same (SNc.out _)))
          go_wp2_with fail
          go_ret
          exact ⟨rfl, only_drewN ho5 _⟩
end Go.Proofs.Ytgijepaohhekfaa
