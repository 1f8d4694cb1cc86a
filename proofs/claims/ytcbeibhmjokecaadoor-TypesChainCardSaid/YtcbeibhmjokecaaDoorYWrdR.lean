/- How many words a type has: the document's Words. -/
import Derived.Test.YtcbeibhmjokecaaDoorYFldR
import Derived.Test.YtcbeibhmjokecaaDoorYRightR
set_option linter.unusedSimpArgs false
set_option linter.unusedVariables false
namespace Go.Proofs.YtcbeibhmjokecaaDoor
open Go.RowKit M

mutual
theorem tyW_le {g : ByteArray → Option Nat} (hg : ∀ s x, g s = some x → x ≤ 16384) : ∀ (t : Ty) (x : Nat), tyW g t = some x → x ≤ 16384
  | .mk f n s l, x, e => by
    unfold tyW at e
    split at e
    · split at e
      · obtain ⟨k, hk, e2⟩ := Option.bind_eq_some_iff.1 e
        obtain ⟨h1, h2⟩ := limW_some e2
        exact h2
      · split at e
        · exact hg s x e
        · injection e with e; omega
    · cases e
end
theorem recW_le {R : Recs} {n : Nat} : ∀ (k : Nat) (s : ByteArray) (x : Nat), recW R n k s = some x → x ≤ 16384
  | 0, _, _, e => by cases e
  | k + 1, s, x, e => by
    unfold recW at e
    obtain ⟨l, hl, e2⟩ := Option.bind_eq_some_iff.1 e
    exact sumW_le l 0 x (by omega) e2
theorem one_of_right {n : Int} {s : ByteArray} {la : List Ty} (h : rightB (Ty.mk 7 n s la) = true) : (∃ t, la = [t]) ∧ 1 ≤ n ∧ n ≤ 1024 := by
  unfold rightB at h
  rw [if_neg (by decide), if_pos rfl] at h
  simp only [Bool.and_eq_true, decide_eq_true_eq] at h
  refine ⟨?_, h.1, h.2.1⟩
  match la, h.2.2.2 with
  | [t], _ => exact ⟨t, rfl⟩
/-- What Words leaves. -/
def WrdPost (w : World) (X : Option Nat) (e : Ending) (w' : World) : Prop :=
  ∃ m : Int, e = .returned (.tuple #[.int .i64 m, .bool X.isSome]) ∧ (∀ x, X = some x → m = (x : Int)) ∧ Only Nil w w'
theorem sumW_drop {f : Ty → Option Nat} {l : List Vr} {q acc : Nat} {v : Vr} (h : l[q]? = some v) : sumW f acc (l.drop q) = (f v.t).bind (fun k => if acc + k ≤ 16384 then sumW f (acc + k) (l.drop (q + 1)) else none) := by
  have hk := (List.getElem?_eq_some_iff.1 h).1
  rw [List.drop_eq_getElem_cons hk, (List.getElem?_eq_some_iff.1 h).2]
  rfl
set_option maxRecDepth 20000 in
set_option maxHeartbeats 3200000 in
theorem wrdR_any {U : Nat → Prop} {w0 : World} {mv : Value} {n : Nat} {R : Recs} {fv : ByteArray → Value} (hM : RMap U w0 mv n R fv) (hF : ∀ s r, R s = some r → r.fields.length ≤ 1000) (hn9 : n ≤ 20000) : ∀ (k : Nat), k ≤ 20000 → ∀ (w1 : World), Only Nil w0 w1 → ∀ {va : Value} {la : List Ty}, TyS Any w1 va la → ∀ (f m : Int) (s : ByteArray), s.size ≤ maxLen → ∀ (w : World), Only Nil w1 w →
    Calls Tryd.prog 34 #[.agg #[.int .i64 f, .int .i64 m, .string s, va], mv, .int .i64 (k : Int)] w (WrdPost w (tyW (recW R n k) (Ty.mk f m s la))) := by
  intro k
  induction k using Nat.strongRecOn with
  | ind k ihk =>
    intro hk9 w1 hw1 va la ha
    have IHK := Lib.hid ihk
    clear ihk
    induction ha with
    | mk la ao cap off b ovs h0 h1 hb hn hs hc hr ih =>
      intro f m s hsz w hw
      have ha : TyS Any w1 (.slice ao la.length cap) la := TyS.mk la ao cap off b ovs h0 h1 hb hn hs hc hr
      have HRT := Lib.hid (fun w' (h : Only Nil w1 w') => rightR_any ha f m s w' h)
      obtain ⟨na, hna⟩ : ∃ x, la.length = x := ⟨_, rfl⟩
      rw [hna] at HRT ⊢
      obtain ⟨X, hX⟩ : ∃ x, tyW (recW R n k) (Ty.mk f m s la) = x := ⟨_, rfl⟩
      rw [hX]
      have HXLE := Lib.hid (fun x (e : tyW (recW R n k) (Ty.mk f m s la) = some x) => tyW_le (fun s x => recW_le k s x) _ x e)
      unfold tyW at hX
      obtain ⟨rb, hrb⟩ : ∃ r, rightB (Ty.mk f m s la) = r := ⟨_, rfl⟩
      rw [hrb] at HRT hX
      have HW := Lib.hid hw
      have HW1 := Lib.hid hw1
      have HM := Lib.hid hM
      have HF := Lib.hid hF
      cases rb with
      | false =>
        rw [if_neg (by decide)] at hX
        subst hX
        clear hM hF hw hw1 ha h0 h1 hb hn hs hc hr ih hna hrb HXLE IHK
        go_enter Tryd.func34, Tryd.ntmps34
        go_wp2_with fail
        refine (HRT.out _ (HW.out.alloc _)).mono ?_
        rintro e w3 ⟨rfl, ho3⟩
        have HO3 : Hid (Only Nil w w3) := Lib.hid (Nil.trans ((Only.refl Nil w).alloc _) ho3)
        clear ho3 HRT
        go_wp2_with fail
        go_ret2
        exact ⟨0, rfl, (fun x h => by cases h), HO3.out⟩
      | true =>
        rw [if_pos rfl] at hX
        by_cases g7 : f = 7
        · subst g7
          rw [if_pos rfl] at hX
          obtain ⟨⟨t, rfl⟩, m1, m2⟩ := one_of_right hrb
          obtain ⟨N, rfl⟩ : ∃ N : Nat, m = (N : Int) := ⟨m.toNat, by omega⟩
          have e1 : na = 1 := hna.symm
          subst e1
          have e2 := h0 (by show 0 < 1; decide)
          subst e2
          have hsz2 := hs t List.mem_cons_self
          obtain ⟨Y, hY⟩ : ∃ x, tyW (recW R n k) t = x := ⟨_, rfl⟩
          have hYle : ∀ x, Y = some x → x ≤ 16384 := fun x e => tyW_le (fun s x => recW_le k s x) t x (hY.trans e)
          have HIH := Lib.hid (fun w' (h : Only Nil w1 w') => by
            have := ih 0 t rfl t.form t.n t.name hsz2 w' h
            rw [Ty.eta, hY] at this
            exact this)
          rw [show oneW (recW R n k) [t] = tyW (recW R n k) t by unfold oneW; rfl, hY, Int.toNat_natCast] at hX
          have HX := Lib.hid hX
          have HYLE := Lib.hid hYle
          have M1 := Lib.hid m1
          have M2 := Lib.hid m2
          have HC := Lib.hid (hc 0 t rfl)
          clear hM hF hw hw1 ha h0 h1 hb hn hs hc hr ih hna hrb IHK hX hYle m1 m2 hY hsz2 HXLE
          go_enter Tryd.func34, Tryd.ntmps34
          go_wp2_with fail
          refine (HRT.out _ (HW.out.alloc _)).mono ?_
          rintro e w3 ⟨rfl, ho3⟩
          have h3 : Only Nil w w3 := Nil.trans ((Only.refl Nil w).alloc _) ho3
          have hB := (Blk.new w #[.int .i64 7, .int .i64 (N : Int), .string s, .slice (some ⟨b, off, none⟩) 1 cap] 25).kept ho3 (fun h => h)
          have HB := Lib.hid hB
          have H3 := Lib.hid h3
          have q0 : w3.cell? ⟨w.heap.size, 0, none⟩ = some (.int .i64 7) := hB.cell 0
          have q1 : w3.cell? ⟨w.heap.size, 1, none⟩ = some (.int .i64 (N : Int)) := hB.cell 1
          have q3 : w3.cell? ⟨w.heap.size, 3, none⟩ = some (.slice (some ⟨b, off, none⟩) 1 cap) := hB.cell 3
          have a1 := HC.out.kept (Nil.trans HW.out h3) (fun _ h => h)
          unfold tyCells at a1
          rw [Nat.zero_mul, Nat.add_zero] at a1
          have b0 := a1.get0
          have b1 := a1.get 1 rfl
          have b2 := a1.get 2 rfl
          have b3 := a1.get 3 rfl
          clear ho3 h3 hB a1 HRT
          go_wp2_with fail
          refine (HIH.out _ (Nil.trans HW.out H3.out)).mono ?_
          rintro e w4 ⟨y, rfl, hy, ho4⟩
          have H4 := Lib.hid (Nil.trans H3.out ho4)
          have q1 : w4.cell? ⟨w.heap.size, 1, none⟩ = some (.int .i64 (N : Int)) := (HB.out.kept ho4 (fun h => h)).cell 1
          clear ho4 HIH b0 b1 b2 b3 q0 q3
          cases Y with
          | none =>
            have hx := HX.out
            have hx : none = X := hx
            clear HX
            subst hx
            clear hy
            simp only [Option.isSome_none]
            go_wp2_with fail
            go_ret2
            exact ⟨0, rfl, (fun x h => by cases h), H4.out⟩
          | some x =>
            have hyx := hy x rfl
            subst hyx
            have hxle := HYLE.out x rfl
            have hpp : N * x ≤ 16777216 := by
              have h1 : N ≤ 1024 := by have := M2.out; omega
              have := Nat.mul_le_mul h1 hxle
              omega
            obtain ⟨p, hp⟩ : ∃ p, N * x = p := ⟨_, rfl⟩
            have wm : IntKind.i64.wrap ((x : Int) * (N : Int)) = (p : Int) := by
              rw [← Int.natCast_mul, Nat.mul_comm x N, hp, IntKind.wrap]
              rw [hp] at hpp
              simp [IntKind.bits, IntKind.signed]; omega
            have hx := HX.out
            have hx : limW (N * x) = X := hx
            rw [hp] at hx
            unfold limW at hx
            clear HX hy hpp hp HYLE
            simp only [Option.isSome_some]
            by_cases hp4 : p ≤ 16384
            · rw [if_pos hp4] at hx
              subst hx
              have p4 : (p : Int) ≤ 16384 := by omega
              clear hp4
              go_wp2_with fail
              go_ret2
              exact ⟨p, rfl, (fun x h => by injection h with h; rw [h]), H4.out⟩
            · rw [if_neg hp4] at hx
              subst hx
              have p4 : ¬ (p : Int) ≤ 16384 := by omega
              clear hp4
              go_wp2_with fail
              go_ret2
              exact ⟨p, by simp [p4], (fun x h => by cases h), H4.out⟩
        · rw [if_neg g7] at hX
          have q7 : (f == 7) = false := by simpa using g7
          by_cases g8 : f = 8
          · subst g8
            rw [if_pos rfl] at hX
            have HFL := Lib.hid (fun w' (h : Only Nil w0 w') => fieldsR_any hM hF hn9 s hsz w' h)
            have hX : recW R n k s = X := hX
            by_cases hk0 : k = 0
            · subst hk0
              have hX : none = X := hX
              subst hX
              have c0 : (((0 : Nat) : Int)) = 0 := rfl
              rw [c0]
              clear hM hF hw hw1 ha h0 h1 hb hn hs hc hr ih hna hrb HXLE IHK g7 c0
              go_enter Tryd.func34, Tryd.ntmps34
              go_wp2_with fail
              refine (HRT.out _ (HW.out.alloc _)).mono ?_
              rintro e w3 ⟨rfl, ho3⟩
              have h3 : Only Nil w w3 := Nil.trans ((Only.refl Nil w).alloc _) ho3
              have hB := (Blk.new w #[.int .i64 8, .int .i64 m, .string s, .slice ao na cap] 25).kept ho3 (fun h => h)
              have q0 : w3.cell? ⟨w.heap.size, 0, none⟩ = some (.int .i64 8) := hB.cell 0
              have q2 : w3.cell? ⟨w.heap.size, 2, none⟩ = some (.string s) := hB.cell 2
              have H3 := Lib.hid h3
              clear ho3 HRT hB h3
              go_wp2_with fail
              refine (HFL.out _ (Nil.trans HW1.out (Nil.trans HW.out H3.out))).mono ?_
              rintro e w4 ⟨v, rfl, hv, ho4⟩
              obtain ⟨aoL, capL, e1⟩ := hv.slice
              obtain ⟨n4, hn4⟩ : ∃ x, ((fieldsM R n s).getD []).length = x := ⟨_, rfl⟩
              rw [hn4] at e1
              subst e1
              have H4 := Lib.hid (Nil.trans H3.out ho4)
              obtain ⟨b4, hb4⟩ : ∃ x, (fieldsM R n s).isSome = x := ⟨_, rfl⟩
              rw [hb4]
              clear HFL hv ho4 q0 q2 hn4 hb4
              cases b4
              all_goals
                go_wp2_with fail
                go_ret2
                exact ⟨0, rfl, (fun x h => by cases h), H4.out⟩
            · obtain ⟨d, rfl⟩ : ∃ d, k = d + 1 := ⟨k - 1, by omega⟩
              obtain ⟨kk, hkk⟩ : ∃ x, d + 1 = x := ⟨_, rfl⟩
              have k1 : (1 : Int) ≤ (kk : Int) := by omega
              have wk : IntKind.i64.wrap ((kk : Int) - 1) = (d : Int) := by rw [IntKind.wrap]; simp [IntKind.bits, IntKind.signed]; omega
              unfold recW at hX
              rw [hkk]
              have HIH := Lib.hid (IHK.out d (by omega) (by omega))
              have HGL := Lib.hid (fun t x (e : tyW (recW R n d) t = some x) => tyW_le (fun s x => recW_le d s x) t x e)
              have HFLEN := Lib.hid (fun l (e : fieldsM R n s = some l) => fieldsM_len hF e)
              have HN9 := Lib.hid hn9
              clear hM hF hw hw1 ha h0 h1 hb hn hs hc hr ih hna hrb HXLE IHK g7 hkk hk0 hk9
              go_enter Tryd.func34, Tryd.ntmps34
              go_wp2_with fail
              refine (HRT.out _ (HW.out.alloc _)).mono ?_
              rintro e w3 ⟨rfl, ho3⟩
              have h3 : Only Nil w w3 := Nil.trans ((Only.refl Nil w).alloc _) ho3
              have hB := (Blk.new w #[.int .i64 8, .int .i64 m, .string s, .slice ao na cap] 25).kept ho3 (fun h => h)
              have q0 : w3.cell? ⟨w.heap.size, 0, none⟩ = some (.int .i64 8) := hB.cell 0
              have q2 : w3.cell? ⟨w.heap.size, 2, none⟩ = some (.string s) := hB.cell 2
              have H3 := Lib.hid h3
              clear ho3 HRT hB h3
              go_wp2_with fail
              refine (HFL.out _ (Nil.trans HW1.out (Nil.trans HW.out H3.out))).mono ?_
              rintro e w4 ⟨v, rfl, hv, ho4⟩
              have H4 := Lib.hid (Nil.trans H3.out ho4)
              clear HFL ho4 q0 q2
              cases hfl : fieldsM R n s with
              | none =>
                rw [hfl] at hX hv
                have hX : none = X := hX
                subst hX
                obtain ⟨aoL, capL, e1⟩ := hv.slice
                have e1 : v = .slice aoL 0 capL := e1
                subst e1
                simp only [hfl, Option.isSome_none]
                clear hv hfl wk
                go_wp2_with fail
                go_ret2
                exact ⟨0, rfl, (fun x h => by cases h), H4.out⟩
              | some l =>
                rw [hfl] at hX hv
                have hX : sumW (tyW (recW R n d)) 0 l = X := hX
                have hv : VarS (fun k => k < w4.heap.size) w4 v l := hv
                have hlen := HFLEN.out l hfl
                obtain ⟨aoL, capL, offL, bL, ovs, e1, p0, p1, p2, p3, p4, p5⟩ := hv.inv
                subst e1
                obtain ⟨ml, hml⟩ : ∃ x, l.length = x := ⟨_, rfl⟩
                have HML := Lib.hid hml
                have HP0 := Lib.hid p0
                have HP3 := Lib.hid p3
                have HP4 := Lib.hid p4
                have HP5 := Lib.hid p5
                have HX := Lib.hid hX
                have hm9 : ml ≤ 20000000 := by rw [← hml]; have := HN9.out; omega
                have HM9 := Lib.hid hm9
                have w04 : Only Nil w0 w4 := Nil.trans HW1.out (Nil.trans HW.out H4.out)
                have HW04 := Lib.hid w04
                rw [hml]
                simp only [hfl, Option.isSome_some]
                clear hv hfl p0 p1 p2 p3 p4 p5 hX hml hlen hm9 w04
                go_wp2_with fail
                go_loopg [8, 13] ml (fun g a i wr => ∃ (q acc : Nat), i = .int .i64 (q : Int) ∧ a = .int .i64 (acc : Int) ∧ q ≤ ml ∧ g = ml - q ∧ acc ≤ 16384 ∧ Only Nil w4 wr ∧ sumW (tyW (recW R n d)) acc (l.drop q) = X)
                case atStart => exact ⟨0, 0, rfl, rfl, Nat.zero_le _, rfl, Nat.zero_le _, Only.refl _ _, HX.out⟩
                case round =>
                  obtain ⟨q, acc, rfl, rfl, hq, hg, hacc, ho, hsum⟩ := hrel
                  have HG := Lib.hid hg
                  have HO := Lib.hid ho
                  have HACC := Lib.hid hacc
                  have k0 : (0 : Int) ≤ (q : Int) := Int.natCast_nonneg _
                  by_cases hqm : q < ml
                  · have k1' : (q : Int) < (ml : Int) := by omega
                    obtain ⟨x, hx⟩ : ∃ x, l[q]? = some x := ⟨_, List.getElem?_eq_getElem (by rw [HML.out]; exact hqm)⟩
                    have e1 := HP0.out (by rw [HML.out]; omega)
                    subst e1
                    have a1 := (HP4.out q x hx).kept ho (fun _ h => h)
                    unfold vrCells at a1
                    have b0 := a1.get0
                    have b1 := a1.get 1 rfl
                    have b2 := a1.get 2 rfl
                    have b3 := a1.get 3 rfl
                    have b4 := a1.get 4 rfl
                    have b5 := a1.get 5 rfl
                    rw [sumW_drop hx] at hsum
                    have hsx := HP3.out x (List.mem_of_getElem? hx)
                    obtain ⟨Y, hY⟩ : ∃ y, tyW (recW R n d) x.t = y := ⟨_, rfl⟩
                    rw [hY] at hsum
                    have HYLE := Lib.hid (fun y (e : Y = some y) => HGL.out x.t y (hY.trans e))
                    have C := Lib.hid (by
                      have := HIH.out wr (Nil.trans HW04.out ho) ((HP5.out q x hx).go ho).any x.t.form x.t.n x.t.name hsx.2
                      rw [Ty.eta, hY] at this
                      exact this)
                    obtain ⟨aoT, capT, eT⟩ := (HP5.out q x hx).slice
                    rw [eT] at b5 C
                    obtain ⟨m3, hm3⟩ : ∃ x', x.t.of.length = x' := ⟨_, rfl⟩
                    rw [hm3] at b5 C
                    have HSUM := Lib.hid hsum
                    clear a1 hx hsum hsx hY eT hm3 hg ho hacc hq
                    go_wp2_with fail
                    refine (C.out _ (Only.refl Nil wr)).mono ?_
                    rintro e w6 ⟨y, rfl, hy, ho6⟩
                    have HO6 := Lib.hid (Nil.trans HO.out ho6)
                    clear ho6 C b0 b1 b2 b3 b4 b5
                    cases Y with
                    | none =>
                      have hx := HSUM.out
                      have hx : none = X := hx
                      clear HSUM HX
                      subst hx
                      clear hy
                      simp only [Option.isSome_none]
                      go_wp2_with fail
                      go_ret2
                      exact ⟨0, rfl, (fun x h => by cases h), Nil.trans H4.out HO6.out⟩
                    | some z =>
                      have hyx := hy z rfl
                      subst hyx
                      have hzle := HYLE.out z rfl
                      obtain ⟨p, hp⟩ : ∃ p, acc + z = p := ⟨_, rfl⟩
                      have wm : IntKind.i64.wrap ((acc : Int) + (z : Int)) = (p : Int) := by
                        have := HACC.out
                        rw [IntKind.wrap]
                        simp [IntKind.bits, IntKind.signed]; omega
                      have hx := HSUM.out
                      have hx : (if acc + z ≤ 16384 then sumW (tyW (recW R n d)) (acc + z) (l.drop (q + 1)) else none) = X := hx
                      rw [hp] at hx
                      clear HSUM hy hp HYLE hzle
                      simp only [Option.isSome_some]
                      by_cases hp4 : p ≤ 16384
                      · rw [if_pos hp4] at hx
                        have HX2 := Lib.hid hx
                        have p4 : (p : Int) ≤ 16384 := by omega
                        have HP4' := Lib.hid hp4
                        clear hp4 hx
                        have wq : IntKind.i64.wrap ((q : Int) + 1) = ((q + 1 : Nat) : Int) := by have := HM9.out; rw [IntKind.wrap]; simp [IntKind.bits, IntKind.signed]; omega
                        go_wp2_with fail
                        go_roundg (ml - (q + 1))
                        case measure => have := HG.out; omega
                        case rel => exact ⟨q + 1, p, rfl, rfl, by omega, rfl, HP4'.out, HO6.out, HX2.out⟩
                      · rw [if_neg hp4] at hx
                        clear HX
                        subst hx
                        have p4 : ¬ (p : Int) ≤ 16384 := by omega
                        clear hp4
                        go_wp2_with fail
                        go_ret2
                        exact ⟨0, rfl, (fun x h => by cases h), Nil.trans H4.out HO6.out⟩
                  · have hqe : q = ml := by omega
                    subst hqe
                    have k1' : (q : Int) ≤ (q : Int) := Int.le_refl _
                    rw [List.drop_of_length_le (by rw [HML.out]; exact Nat.le_refl _)] at hsum
                    have hx : some acc = X := hsum
                    clear HX hsum
                    subst hx
                    have p4 : (acc : Int) ≤ 16384 := by omega
                    clear hg ho hacc
                    go_wp2_with fail
                    go_ret2
                    exact ⟨acc, rfl, (fun x h => by injection h with h; rw [h]), Nil.trans H4.out HO.out⟩
          · rw [if_neg g8] at hX
            have q8 : (f == 8) = false := by simpa using g8
            subst hX
            clear hM hF hw hw1 ha h0 h1 hb hn hs hc hr ih hna hrb HXLE IHK g7 g8
            go_enter Tryd.func34, Tryd.ntmps34
            go_wp2_with fail
            refine (HRT.out _ (HW.out.alloc _)).mono ?_
            rintro e w3 ⟨rfl, ho3⟩
            have HO3 : Hid (Only Nil w w3) := Lib.hid (Nil.trans ((Only.refl Nil w).alloc _) ho3)
            have hB := (Blk.new w #[.int .i64 f, .int .i64 m, .string s, .slice ao na cap] 25).kept ho3 (fun h => h)
            have q0 : w3.cell? ⟨w.heap.size, 0, none⟩ = some (.int .i64 f) := hB.cell 0
            clear ho3 HRT hB
            go_wp2_with fail
            go_ret2
            exact ⟨1, rfl, (fun x h => by injection h with h; rw [← h]; rfl), HO3.out⟩
end Go.Proofs.YtcbeibhmjokecaaDoor
