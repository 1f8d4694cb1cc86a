/- An array's type is made: in which blocks it lies. -/
import Derived.Test.YtcbeibhmjokecaaDoorYOrd
set_option linter.unusedSimpArgs false
set_option linter.unusedVariables false
namespace Go.Proofs.YtcbeibhmjokecaaDoor
open Go.RowKit M

set_option maxHeartbeats 1600000 in
theorem arrR_new {U : Nat → Prop} (n f m : Int) (s : ByteArray) (hs : s.size ≤ maxLen) (ov : Value) (l : List Ty) (w : World) (h : TyS U w ov l) :
    Calls Tryd.prog 17 #[.int .i64 n, .agg #[.int .i64 f, .int .i64 m, .string s, ov]] w fun e w' => ∃ b, e = .returned (.agg #[.int .i64 7, .int .i64 n, .string ⟨#[]⟩, .slice (some ⟨b, 0, none⟩) 1 1]) ∧ TyS (fun k => U k ∨ w.heap.size ≤ k) w' (.slice (some ⟨b, 0, none⟩) 1 1) [.mk f m s l] ∧ Only Nil w w' := by
  obtain ⟨ao, cap, rfl⟩ := h.slice
  obtain ⟨k, hk⟩ : ∃ k, l.length = k := ⟨_, rfl⟩
  rw [hk] at h ⊢
  have H := Lib.hid h
  clear h hk
  go_enter Tryd.func17, Tryd.ntmps17
  go_wp2_with fail
  have s1 : (w.alloc (.cells #[.int .i64 f, .int .i64 m, .string s, .slice ao k cap] 25)).heap.size = w.heap.size + 1 := by simp
  obtain ⟨w1, hw1⟩ : ∃ z, w.alloc (.cells #[.int .i64 f, .int .i64 m, .string s, .slice ao k cap] 25) = z := ⟨_, rfl⟩
  have o1 : Only Nil w w1 := by rw [← hw1]; exact (Only.refl Nil w).alloc _
  rw [hw1] at s1 ⊢
  have hB := Blk.new w1 #[.int .i64 7, .int .i64 n, .string ⟨#[]⟩, .slice (some ⟨w.heap.size + 1 + 1, 0, none⟩) 1 1] 25
  rw [s1] at hB
  have s2 : (w1.alloc (.cells #[.int .i64 7, .int .i64 n, .string ⟨#[]⟩, .slice (some ⟨w.heap.size + 1 + 1, 0, none⟩) 1 1] 25)).heap.size = w.heap.size + 1 + 1 := by simp [s1]
  obtain ⟨w2, hw2⟩ : ∃ z, w1.alloc (.cells #[.int .i64 7, .int .i64 n, .string ⟨#[]⟩, .slice (some ⟨w.heap.size + 1 + 1, 0, none⟩) 1 1] 25) = z := ⟨_, rfl⟩
  have o2 : Only Nil w1 w2 := by rw [← hw2]; exact (Only.refl Nil w1).alloc _
  rw [hw2] at s2 hB ⊢
  have hE := Blk.new w2 #[.int .i64 f, .int .i64 m, .string s, .slice ao k cap] 25
  rw [s2] at hE
  have hBr := hB.alloc (.cells #[.int .i64 f, .int .i64 m, .string s, .slice ao k cap] 25)
  have o3 := (alloc0 w2 (.cells #[.int .i64 f, .int .i64 m, .string s, .slice ao k cap] 25))
  obtain ⟨w3, hw3⟩ : ∃ z, w2.alloc (.cells #[.int .i64 f, .int .i64 m, .string s, .slice ao k cap] 25) = z := ⟨_, rfl⟩
  rw [hw3] at hE hBr o3 ⊢
  have O := Nil.trans (Nil.trans o1 o2) o3
  refine bodyPost_ret (results_cell_row rfl _ _ (w.heap.size + 1) 25 _ (0, 0) _ rfl hBr Tryd.underlying25 rfl (by kernel_rfl)) rfl ?_
  refine ⟨_, rfl, ?_, O⟩
  refine TyS.mk [.mk f m s l] _ 1 0 (w.heap.size + 1 + 1) (fun _ => .slice ao k cap) (fun _ => rfl) (fun h => by cases h) (fun _ => Or.inr (by omega)) (by show 1 * 56 ≤ _; decide) (fun t ht => by simp only [List.mem_singleton] at ht; subst ht; exact hs) (fun i t hi j u hu => ?_) (fun i t hi => ?_)
  · have hil := (List.getElem?_eq_some_iff.1 hi).1
    have : i = 0 := by simp at hil; omega
    subst this
    simp only [List.getElem?_cons_zero, Option.some.injEq] at hi
    subst hi
    first | rw [show 0 + 0 * 4 + j = j by omega, hE.cell] | rw [hE.cell]
    rw [show (#[Value.int .i64 f, .int .i64 m, .string s, .slice ao k cap] : Array Value) = (tyCells (Ty.mk f m s l) (.slice ao k cap)).toArray from rfl, List.getElem?_toArray]
    exact hu
  · have hil := (List.getElem?_eq_some_iff.1 hi).1
    have : i = 0 := by simp at hil; omega
    subst this
    simp only [List.getElem?_cons_zero, Option.some.injEq] at hi
    subst hi
    exact ((H.out.go O).mono (fun k hk => Or.inl hk))
end Go.Proofs.YtcbeibhmjokecaaDoor

/- light ends, whatever it tells. -/
set_option linter.unusedSimpArgs false
set_option linter.unusedVariables false
namespace Go.Proofs.YtcbeibhmjokecaaDoor
open Go.RowKit M

def SomeB (w : World) (e : Ending) (w' : World) : Prop := (∃ b, e = .returned (.bool b)) ∧ Only Nil w w'
set_option maxRecDepth 20000 in
set_option maxHeartbeats 1600000 in
theorem light_any {U : Nat → Prop} {w0 : World} {va : Value} {la : List Ty} (ha : TyS U w0 va la) : ∀ (f n : Int) (s : ByteArray) (left : Nat) (w : World), left ≤ 100 → Only Nil w0 w →
    Calls Tryd.prog 9 #[.agg #[.int .i64 f, .int .i64 n, .string s, va], .int .i64 (left : Int)] w (SomeB w) := by
  induction ha with
  | mk la ao cap off b ovs h0 h1 hb hn hs hc hr ih =>
    intro f n s left w hle hw
    obtain ⟨na, hna⟩ : ∃ x, la.length = x := ⟨_, rfl⟩
    rw [hna] at h0 hn ⊢
    have HW := Lib.hid hw
    have H0 := Lib.hid h0
    have HA := Lib.hid hna
    have HN := Lib.hid hn
    have HLE := Lib.hid hle
    clear hw h0 h1 hb hna hn hs hle
    by_cases hl0 : left = 0
    · subst hl0
      have c0 : (((0 : Nat) : Int)) = 0 := rfl
      rw [c0]
      clear c0 ih hc hr
      go_enter Tryd.func9, Tryd.ntmps9
      go_wp2_with fail
      go_ret
      exact ⟨⟨_, rfl⟩, (Only.refl Nil w).alloc _⟩
    · obtain ⟨d, rfl⟩ : ∃ d, left = d + 1 := ⟨left - 1, by omega⟩
      obtain ⟨lf, hlf⟩ : ∃ z, d + 1 = z := ⟨_, rfl⟩
      have l0 : ((lf : Int) == 0) = false := by simp; omega
      have wl : IntKind.i64.wrap ((lf : Int) - 1) = (d : Int) := by have := HLE.out; rw [IntKind.wrap]; simp [IntKind.bits, IntKind.signed]; omega
      rw [hlf]
      have HD : Hid (d ≤ 100) := Lib.hid (by have := HLE.out; omega)
      clear hlf hl0
      by_cases h5 : 5 < na
      · have k5 : (5 : Int) < (na : Int) := by omega
        clear ih hc hr h5
        go_enter Tryd.func9, Tryd.ntmps9
        go_wp2_with fail
        go_ret
        exact ⟨⟨_, rfl⟩, (Only.refl Nil w).alloc _⟩
      · have k5 : ¬ (5 : Int) < (na : Int) := by omega
        have HNA := Lib.hid (Nat.le_of_not_lt h5)
        have ho1 := alloc0 w (.cells #[.int .i64 f, .int .i64 n, .string s, .slice ao na cap] 25)
        have hB1 := Blk.new w #[.int .i64 f, .int .i64 n, .string s, .slice ao na cap] 25
        have HO1 := Lib.hid ho1
        have HB1 := Lib.hid hB1
        clear ho1 hB1 h5
        go_enter Tryd.func9, Tryd.ntmps9
        go_wp2_with fail
        go_loopg [5] na (fun g i wr => ∃ k : Nat, i = .int .i64 (k : Int) ∧ k ≤ na ∧ g = na - k ∧ Only Nil w wr ∧ Blk wr w.heap.size #[.int .i64 f, .int .i64 n, .string s, .slice ao na cap] 25)
        case atStart => exact ⟨0, rfl, Nat.zero_le _, rfl, HO1.out, HB1.out⟩
        case round =>
          obtain ⟨k, rfl, hk, hg, ho, hB⟩ := hrel
          have HG := Lib.hid hg
          have HO := Lib.hid ho
          have HB := Lib.hid hB
          have c3 : wr.cell? ⟨w.heap.size, 3, none⟩ = some (.slice ao na cap) := hB.cell 3
          have k0 : (0 : Int) ≤ (k : Int) := Int.natCast_nonneg _
          by_cases hkn : k < na
          · have k1 : (k : Int) < (na : Int) := by omega
            obtain ⟨t, ht⟩ : ∃ t, la[k]? = some t := ⟨_, List.getElem?_eq_getElem (by rw [HA.out]; exact hkn)⟩
            have e1 := H0.out (by omega)
            subst e1
            have hO : Only Nil w0 wr := Nil.trans HW.out HO.out
            have a1 := (hc k t ht).kept hO (fun _ h => h)
            unfold tyCells at a1
            have b0 := a1.get0
            have b1 := a1.get 1 rfl
            have b2 := a1.get 2 rfl
            have b3 := a1.get 3 rfl
            have C := Lib.hid (fun w' (h : Only Nil wr w') => ih k t ht t.form t.n t.name d w' HD.out (Nil.trans hO h))
            clear a1 ih hr hc ht hB ho hg hO hk
            go_wp2_with fail
            refine (C.out _ (Only.refl _ _)).mono ?_
            rintro e w3 ⟨⟨bb, rfl⟩, ho3⟩
            have HO3 := Lib.hid (Nil.trans HO.out ho3)
            have HB3 := Lib.hid (HB.out.kept ho3 (fun h => h))
            clear C ho3 b0 b1 b2 b3 c3
            cases bb
            · go_wp2_with fail
              go_ret
              exact ⟨⟨_, rfl⟩, HO3.out⟩
            · have wk : IntKind.i64.wrap ((k : Int) + 1) = ((k + 1 : Nat) : Int) := by have := HNA.out; rw [IntKind.wrap]; simp [IntKind.bits, IntKind.signed]; omega
              go_wp2_with fail
              go_roundg (na - (k + 1))
              case measure => have := HG.out; omega
              case rel => exact ⟨k + 1, rfl, by omega, rfl, HO3.out, HB3.out⟩
          · have hkn' : k = na := by omega
            subst hkn'
            have k1 : (k : Int) ≤ (k : Int) := Int.le_refl _
            clear ih hr hc hg ho hB hk
            go_wp2_with fail
            go_ret
            exact ⟨⟨_, rfl⟩, HO.out⟩
end Go.Proofs.YtcbeibhmjokecaaDoor

