/- DecodeCode, the document's. -/
import Derived.Test.YtipdfgkemghmoaaDoorCDec
set_option linter.unusedSimpArgs false
set_option linter.unusedVariables false
namespace Go.Proofs.YtipdfgkemghmoaaDoor
open Go.RowKit M

/-- A list of one's own, where there is one; anything else. -/
def DecIsR (w : World) (r : Option (List Cod)) (sv : Value) (w' : World) : Prop :=
  ∀ l, r = some l → w'.ownsRow w.heap.size 26 2 sv l.length (codCells l)

set_option maxRecDepth 20000 in
set_option maxHeartbeats 3200000 in
theorem decR_any (s : Value) (B : List Nat) (w : World) (hs : Row w s B) (hl : B.length ≤ 10000) :
    Calls Tryd.prog 13 #[s] w fun e w' => ∃ sv, e = .returned (.tuple #[sv, .bool (decL B).isSome]) ∧ DecIsR w (decL B) sv w' ∧ Only Nil w w' := by
  obtain ⟨R, hR⟩ : ∃ R, decL B = R := ⟨_, rfl⟩
  rw [hR]
  obtain ⟨i0, hi, hz0, hz1, hz2⟩ := info_parts Tryd.info26
  obtain ⟨u, m, ok, hr⟩ : ∃ u m ok, readV 0 0 B = (u, m, ok) := ⟨_, _, _, rfl⟩
  have cR := readVar_val s B w hs u m ok hr
  have hu := readV_lt B
  rw [hr] at hu
  simp only at hu
  have hrow := hs
  obtain ⟨b, ao, cap, off, rfl, h2, h3, h4, h5, h6, h7⟩ := hs
  clear h4 h5 h6 h7
  cases ok
  · have e : R = none := by rw [← hR]; unfold decL; rw [hr]; rfl
    subst e
    clear hR hr hrow
    go_enter Tryd.func13, Tryd.ntmps13
    go_wp2_with fail
    refine cR.mono ?_
    rintro e w1 ⟨rfl, rfl⟩
    go_wp2_with fail
    go_ret2
    exact ⟨_, rfl, nofun, Only.refl _ _⟩
  · have hm := readV_le B (by rw [hr])
    rw [hr] at hm
    simp only at hm
    have e : listV u (B.drop m) = R := by rw [← hR]; unfold decL; rw [hr]; rfl
    have hao : ∃ b off, ao = some ⟨b, off, none⟩ := by
      obtain ⟨b, ao', cap', off, e', h2', h3', h4', h5', h6', h7'⟩ := hrow
      simp only [Value.slice.injEq] at e'
      obtain ⟨rfl, _, rfl⟩ := e'
      exact ⟨b, off, h4' (by omega)⟩
    obtain ⟨b2, off2, rfl⟩ := hao
    have hrest := hrow.rest m hm.1
    obtain ⟨ap, hap⟩ : ∃ ap, (if cap = m then some (⟨b2, off2, none⟩ : Addr) else some ⟨b2, off2 + m, none⟩) = ap := ⟨_, rfl⟩
    rw [hap] at hrest
    have hdl : (B.drop m).length ≤ 10000 := by rw [List.length_drop]; omega
    have hmany : ¬ u ≤ B.length → R = none := fun h => by
      cases hRR : R with
      | none => rfl
      | some l => rw [hRR] at hR; exact absurd (decL_some hR).2 (by rw [hr]; exact h)
    obtain ⟨n, hn⟩ : ∃ n, B.length = n := ⟨_, rfl⟩
    rw [hn] at h2 hl hrest hm cR hmany ⊢
    unfold maxLen at h3
    have hm0 : (0 : Int) ≤ (m : Int) := Int.natCast_nonneg _
    have HR := Lib.hid hrest
    have HE := Lib.hid e
    have HDL := Lib.hid hdl
    have HMANY := Lib.hid hmany
    clear hR hr hrow e hrest hdl hn hmany
    by_cases hun : u ≤ n
    rotate_left
    · have hd : n < u := by omega
      have hno := HMANY.out hun
      clear HMANY hun
      subst hno
      go_enter Tryd.func13, Tryd.ntmps13
      go_wp2_with fail
      refine cR.mono ?_
      rintro e w1 ⟨rfl, rfl⟩
      go_wp2_with fail
      go_ret2
      exact ⟨_, rfl, nofun, Only.refl _ _⟩
    · clear HMANY
      have hui : IntKind.i64.wrap (u : Int) = (u : Int) := by rw [IntKind.wrap_i64]; omega
      have hdun : decide (n < u) = false := by simp; omega
      go_enter Tryd.func13, Tryd.ntmps13
      go_wp2_with fail
      refine cR.mono ?_
      rintro e w1 ⟨rfl, rfl⟩
      clear cR
      go_wp2_with fail
      go_loopg [0, 7, 8] u (fun g r l i wr => g ≤ u ∧ i = .int .i64 ((u - g : Nat) : Int) ∧ ∃ (rest : List Nat) (pre : List Cod), Row w r rest ∧ wr.ownsRow w.heap.size 26 2 l pre.length (codCells pre) ∧ (listV g rest).map (pre ++ ·) = R ∧ pre.length + rest.length ≤ 10000 ∧ Only Nil w wr)
      case atStart => exact ⟨Nat.le_refl _, by simp, B.drop m, [], HR.out, World.ownsRow_nil _ _ _ _, (by rw [HE.out]; cases R <;> simp), (by simpa using HDL.out), Only.refl _ _⟩
      case round =>
        clear HR HE HDL
        obtain ⟨hg, rfl, rest, pre, hrow, hown, hRR, hlen, ho⟩ := hrel
        obtain ⟨g, rfl⟩ : ∃ g, g = gk := ⟨gk, rfl⟩
        obtain ⟨k, hk⟩ : ∃ k, u - g = k := ⟨_, rfl⟩
        rw [hk]
        by_cases hg0 : g = 0
        · have hd : u ≤ k := by omega
          have hRR0 : (listV 0 rest).map (pre ++ ·) = R := by rw [← hRR, hg0]
          clear hRR hg0 hk
          have hrow2 := hrow
          obtain ⟨b5, ao5, cap5, off5, rfl, k2, k3, k4, k5, k6, k7⟩ := hrow2
          obtain ⟨n5, hn5⟩ : ∃ n, rest.length = n := ⟨_, rfl⟩
          rw [hn5] at k2 hlen ⊢
          by_cases h0 : n5 = 0
          · subst h0
            have hr0 : rest = [] := List.eq_nil_of_length_eq_zero hn5
            subst hr0
            have e : R = some pre := by rw [← hRR0]; simp [listV]
            have HE := Lib.hid e
            clear e hRR0 k4 k5 k6 k7 hrow hn5
            go_wp2_with fail
            go_ret2
            rw [HE.out]
            exact ⟨_, rfl, (fun l hl => by simp only [Option.some.injEq] at hl; subst hl; exact hown), ho⟩
          · have e : R = none := by
              rw [← hRR0]
              have : rest ≠ [] := fun h => h0 (by rw [← hn5, h]; rfl)
              simp [listV, this]
            have HE := Lib.hid e
            have hp : ((n5 : Int) == 0) = false := by rw [beq_eq_false_iff_ne]; omega
            clear e hRR0 k4 k5 k6 k7 hrow hn5 h0
            go_wp2_with fail
            go_ret2
            rw [HE.out]
            exact ⟨u7, (by simp [hp]), nofun, ho⟩
        · have hd : k < u := by omega
          obtain ⟨g1, hg1⟩ : ∃ g1, g - 1 = g1 := ⟨_, rfl⟩
          have hRR0 : (listV (g1 + 1) rest).map (pre ++ ·) = R := by rw [← hRR, show g = g1 + 1 by omega]
          have hgg : g1 < g := by omega
          have hgk : u - g1 = k + 1 := by omega
          have HGK := Lib.hid hgk
          clear hRR hg0 hg1 hk hgk
          have hrow2 := hrow
          obtain ⟨b5, ao5, cap5, off5, rfl, k2, k3, k4, k5, k6, k7⟩ := hrow2
          unfold maxLen at k3
          cases rest with
          | nil =>
            have e : R = none := by rw [← hRR0]; simp [listV, firstV]
            have HE := Lib.hid e
            clear e hRR0 k4 k5 k6 k7 hrow
            go_wp2_with fail
            go_ret2
            rw [HE.out]
            exact ⟨_, rfl, nofun, ho⟩
          | cons o t =>
            have hao := k4 (by simp)
            subst hao
            have c0 := k6 0 (.int .u8 o) (by simp [U8s])
            rw [Nat.add_zero] at c0
            have d0 := ho.cell c0 (fun h => h)
            have hblt := World.block_lt_of_cell? wr _ d0
            simp only at hblt
            have ho8 := k7 o (by simp)
            obtain ⟨n5, hn5⟩ : ∃ n, (o :: t).length = n := ⟨_, rfl⟩
            have hn1 : 1 ≤ n5 := by rw [← hn5]; simp
            have htl : t.length = n5 - 1 := by rw [← hn5]; simp
            rw [hn5] at k2 hlen hrow ⊢
            have hn0 : ((n5 : Int) == 0) = false := by rw [beq_eq_false_iff_ne]; omega
            have hrest := hrow.rest 1 hn1
            simp only [List.drop_succ_cons, List.drop_zero] at hrest
            clear k4 k5 k6 k7 hrow hn5 c0
            have cH := fun w => hasK_any (o : Int) w
            obtain ⟨h, hh⟩ : ∃ h, hasK (o : Int) = h := ⟨_, rfl⟩
            rw [hh] at cH
            by_cases ho34 : 34 ≤ o
            · have e : R = none := by rw [← hRR0]; unfold listV; rw [firstV_cons, if_pos ho34]; rfl
              have hi34 : (34 : Int) ≤ (o : Int) := by omega
              have HE := Lib.hid e
              clear e hRR0 hrest htl cH hh
              go_wp2_with fail
              go_ret2
              rw [HE.out]
              exact ⟨_, rfl, nofun, ho⟩
            · have hi34 : (o : Int) < 34 := by omega
              have hown2 := ownsRow_only hown ((Only.refl Nil wr).alloc (.cells #[.int .i64 o, .int .i32 0] 26)) (fun _ _ h => h)
              cases h
              · have hf : firstV (o :: t) = some (⟨o, 0⟩, 1) := by rw [firstV_cons, if_neg ho34, hh]; rfl
                have e : (listV g1 t).map ((pre ++ [⟨o, 0⟩]) ++ ·) = R := by
                  rw [← hRR0]
                  simp only [listV, hf, Option.map_map]
                  congr 1
                  funext x
                  simp
                have hlr : pre.length + 1 + t.length ≤ 10000 := by omega
                obtain ⟨ap5, hap5⟩ : ∃ ap, (if cap5 = 1 then some (⟨b5, off5, none⟩ : Addr) else some ⟨b5, off5 + 1, none⟩) = ap := ⟨_, rfl⟩
                rw [hap5] at hrest
                have HE := Lib.hid e
                have HL := Lib.hid hlr
                have HREST := Lib.hid hrest
                clear e hRR0 hrest htl hh hf hlr hown
                go_wp2_with fail
                refine (cH _).mono ?_
                rintro e w2 ⟨rfl, rfl⟩
                clear cH
                go_wp2_with (at_builtin; go_must (refine wpList_append_two rfl _ _ 22 rfl w.heap.size 26 i0 (.agg #[.int .i64 0, .int .i32 0]) 16 Tryd.underlying22 hi hz0 hz1 hz2 rfl _ _ _ rfl hown2 (.int .i64 o) (.int .i32 0) rfl rfl (by simp [Act.eval, Act.put]) ?c1 ?c2 ?c3 ?_))
                case c1 => simp [maxLen]; omega
                case c2 => omega
                case c3 => exact (ho.alloc _).size
                intro g9 cap9 w9 hown9 hc91 hc92 hg9 ho9
                have ho10 : Only Nil w w9 := (ho.alloc _).nil_own hown2 ho9
                clear hown2 hc91 hc92 hg9 ho9 d0 hblt
                go_wp2_with fail
                go_roundg g1
                case measure => omega
                case rel =>
                  refine ⟨by omega, by have := HGK.out; go_num, t, pre ++ [⟨o, 0⟩], HREST.out, ?_, HE.out, ?_, ho10⟩
                  · rw [List.length_append, List.length_singleton, codCells_append]; exact hown9
                  · rw [List.length_append, List.length_singleton]; exact HL.out
              · obtain ⟨v, m5, ok, hr5⟩ : ∃ v m ok, readV 0 0 t = (v, m, ok) := ⟨_, _, _, rfl⟩
                have hv := readV_lt t
                rw [hr5] at hv
                simp only at hv
                have cR := fun (w' : World) (ho : Only Nil w w') => readVar_val _ t w' (hrest.kept ho) v m5 ok hr5
                have cZ := fun w => zag_any v w hv
                have ef := firstV_cons o t
                rw [if_neg ho34, hh, if_pos rfl, hr5] at ef
                simp only at ef
                obtain ⟨z, hz⟩ : ∃ z, zag v = z := ⟨_, rfl⟩
                rw [hz] at ef cZ
                cases ok
                · have e : R = none := by rw [← hRR0]; unfold listV; rw [ef, if_neg (by simp)]; rfl
                  obtain ⟨ap5, hap5⟩ : ∃ ap, (if cap5 = 1 then some (⟨b5, off5, none⟩ : Addr) else some ⟨b5, off5 + 1, none⟩) = ap := ⟨_, rfl⟩
                  rw [hap5] at cR
                  have HE := Lib.hid e
                  clear e hRR0 hrest htl hh ef hown hown2 hr5 hz
                  go_wp2_with fail
                  refine (cH _).mono ?_
                  rintro e w2 ⟨rfl, rfl⟩
                  clear cH
                  go_wp2_with fail
                  refine (cR _ (ho.alloc _)).mono ?_
                  rintro e w2 ⟨rfl, rfl⟩
                  go_wp2_with fail
                  refine (cZ _).mono ?_
                  rintro e w2 ⟨rfl, rfl⟩
                  go_wp2_with fail
                  go_ret2
                  rw [HE.out]
                  exact ⟨_, rfl, nofun, ho.alloc _⟩
                · have hm5 := readV_le t (by rw [hr5])
                  rw [hr5] at hm5
                  simp only at hm5
                  have hc1 : ¬ cap5 = 1 := by omega
                  rw [if_neg hc1] at hrest cR
                  have hzz : -9223372036854775808 ≤ z ∧ z ≤ 9223372036854775807 := by
                    rw [← hz]
                    unfold zag
                    split <;> omega
                  by_cases hg : -2147483648 ≤ z ∧ z ≤ 2147483647
                  · rw [if_pos ⟨rfl, hg.1, hg.2⟩] at ef
                    have e : (listV g1 (t.drop m5)).map ((pre ++ [⟨o, z⟩]) ++ ·) = R := by
                      rw [← hRR0]
                      simp only [listV, ef, Option.map_map]
                      rw [show (o :: t).drop (1 + m5) = t.drop m5 by rw [Nat.add_comm, List.drop_succ_cons]]
                      congr 1
                      funext x
                      simp
                    have hlr : pre.length + 1 + (t.drop m5).length ≤ 10000 := by rw [List.length_drop]; omega
                    have hrest2 := hrest.rest m5 (by omega)
                    obtain ⟨ap5, hap5⟩ : ∃ ap, (if cap5 - 1 = m5 then some (⟨b5, off5 + 1, none⟩ : Addr) else some ⟨b5, off5 + 1 + m5, none⟩) = ap := ⟨_, rfl⟩
                    rw [hap5] at hrest2
                    have hzw : IntKind.i32.wrap z = z := by rw [IntKind.wrap_i32]; omega
                    have hzv : IntKind.i64.wrap z = z := by rw [IntKind.wrap_i64]; omega
                    have hm50 : (0 : Int) ≤ (m5 : Int) := Int.natCast_nonneg _
                    have hm51 : m5 ≤ n5 - 1 := by omega
                    have hown3 := ownsRow_only hown ((Only.refl Nil wr).alloc (.cells #[.int .i64 o, .int .i32 z] 26)) (fun _ _ h => h)
                    clear hown2
                    have hown2 := hown3
                    clear hown3
                    have HE := Lib.hid e
                    have HL := Lib.hid hlr
                    have HREST := Lib.hid hrest2
                    clear e hRR0 hrest hrest2 htl hh ef hlr hown hr5 hz
                    go_wp2_with fail
                    refine (cH _).mono ?_
                    rintro e w2 ⟨rfl, rfl⟩
                    clear cH
                    go_wp2_with fail
                    refine (cR _ (ho.alloc _)).mono ?_
                    rintro e w2 ⟨rfl, rfl⟩
                    clear cR
                    go_wp2_with fail
                    refine (cZ _).mono ?_
                    rintro e w2 ⟨rfl, rfl⟩
                    clear cZ
                    go_wp2_with (at_builtin; go_must (refine wpList_append_two rfl _ _ 22 rfl w.heap.size 26 i0 (.agg #[.int .i64 0, .int .i32 0]) 16 Tryd.underlying22 hi hz0 hz1 hz2 rfl _ _ _ rfl hown2 (.int .i64 o) (.int .i32 z) rfl rfl (by simp [Act.eval, Act.put]) ?c1 ?c2 ?c3 ?_))
                    case c1 => simp [maxLen]; omega
                    case c2 => omega
                    case c3 => exact (ho.alloc _).size
                    intro g9 cap9 w9 hown9 hc91 hc92 hg9 ho9
                    have ho10 : Only Nil w w9 := (ho.alloc _).nil_own hown2 ho9
                    clear hown2 hc91 hc92 hg9 ho9 d0 hblt
                    go_wp2_with fail
                    go_roundg g1
                    case measure => omega
                    case rel =>
                      refine ⟨by omega, by have := HGK.out; go_num, t.drop m5, pre ++ [⟨o, z⟩], HREST.out, ?_, HE.out, ?_, ho10⟩
                      · rw [List.length_append, List.length_singleton, codCells_append]; exact hown9
                      · rw [List.length_append, List.length_singleton]; exact HL.out
                  · have e : R = none := by rw [← hRR0]; unfold listV; rw [ef, if_neg (fun h => hg ⟨h.2.1, h.2.2⟩)]; rfl
                    obtain ⟨x, hx⟩ : ∃ x, IntKind.i32.wrap z = x := ⟨_, rfl⟩
                    have hxr : -2147483648 ≤ x ∧ x ≤ 2147483647 := by rw [← hx, IntKind.wrap_i32]; omega
                    have hxw : IntKind.i64.wrap x = x := by rw [IntKind.wrap_i64]; omega
                    have hne : (z != x) = true := by rw [bne_iff_ne]; omega
                    have HE := Lib.hid e
                    clear e hRR0 hrest htl hh ef hown hown2 hr5 hz hg hxr
                    go_wp2_with fail
                    refine (cH _).mono ?_
                    rintro e w2 ⟨rfl, rfl⟩
                    clear cH
                    go_wp2_with fail
                    refine (cR _ (ho.alloc _)).mono ?_
                    rintro e w2 ⟨rfl, rfl⟩
                    go_wp2_with fail
                    refine (cZ _).mono ?_
                    rintro e w2 ⟨rfl, rfl⟩
                    go_wp2_with fail
                    go_ret2
                    rw [HE.out]
                    exact ⟨_, rfl, nofun, ho.alloc _⟩
end Go.Proofs.YtipdfgkemghmoaaDoor
