/- The instruction that bytes begin with, the program's. -/
import Derived.Test.YtipdfgkemghmoaaDoorCRows
set_option linter.unusedSimpArgs false
set_option linter.unusedVariables false
namespace Go.Proofs.YtipdfgkemghmoaaDoor
open Go.RowKit M

theorem M.Only.setNew {S : Nat → Prop} {a w : World} (h : Only S a w) {p : Addr} (hp : a.heap.size ≤ p.block) (u : Value) : Only S a (w.setCell p u) :=
  h.setCell (fun hh => absurd hh (by omega)) u

/-- A slice from a place on. -/
theorem Row.rest {w : World} {b off n cap : Nat} {B : List Nat} (h : Row w (.slice (some ⟨b, off, none⟩) n cap) B) (i : Nat) (hi : i ≤ n) :
    Row w (.slice (if cap = i then some ⟨b, off, none⟩ else some ⟨b, off + i, none⟩) (n - i) (cap - i)) (B.drop i) := by
  obtain ⟨b', ao, cap', off', e, h2, h3, h4, h5, h6, h7⟩ := h
  simp only [Value.slice.injEq] at e
  obtain ⟨rfl, rfl, rfl⟩ := e
  have hl : (B.drop i).length = B.length - i := by simp
  by_cases hb : i < B.length
  · have e2 := h4 (by omega)
    simp only [Option.some.injEq, Addr.mk.injEq, and_true] at e2
    obtain ⟨rfl, rfl⟩ := e2
    rw [if_neg (show ¬ cap = i by omega)]
    refine ⟨b, some ⟨b, off + i, none⟩, cap - i, off + i, by rw [hl], by omega, by omega, fun _ => rfl, fun h => (by cases h), fun j u hj => ?_, fun x hx => h7 x (List.mem_of_mem_drop hx)⟩
    have : (U8s B)[i + j]? = some u := by
      rw [← hj]
      simp only [U8s, List.getElem?_map, List.getElem?_drop]
    have := h6 _ _ this
    rw [Nat.add_assoc]
    exact this
  · have hnil : B.drop i = [] := List.drop_eq_nil_of_le (by omega)
    rw [hnil]
    by_cases hc : cap = i
    · rw [if_pos hc]
      exact ⟨b, some ⟨b, off, none⟩, cap - i, off, by rw [List.length_nil, show B.length - i = 0 by omega], by simp, by omega, fun h => by simp at h, fun h => (by cases h), fun j u hj => (by simp [U8s] at hj), fun x hx => (by simp at hx)⟩
    · rw [if_neg hc]
      exact ⟨b, some ⟨b, off + i, none⟩, cap - i, off, by rw [List.length_nil, show B.length - i = 0 by omega], by simp, by omega, fun h => by simp at h, fun h => (by cases h), fun j u hj => (by simp [U8s] at hj), fun x hx => (by simp at hx)⟩

/-- What is told of the first instruction. -/
def firstRes (r : Option (Cod × Nat)) : Value :=
  match r with
  | none => .tuple #[.agg #[.int .i64 0, .int .i32 0], .int .i64 0, .bool false]
  | some (c, m) => .tuple #[.agg #[.int .i64 c.op, .int .i32 c.k], .int .i64 m, .bool true]

set_option maxRecDepth 10000 in
set_option maxHeartbeats 1600000 in
theorem first_any (s : Value) (B : List Nat) (w : World) (hs : Row w s B) (hl : B.length ≤ 100000) :
    Calls Tryd.prog 24 #[s] w fun e w' => e = .returned (firstRes (firstV B)) ∧ Only Nil w w' := by
  have hrow := hs
  obtain ⟨b, ao, cap, off, rfl, h2, h3, h4, h5, h6, h7⟩ := hs
  cases B with
  | nil =>
    have e : firstRes (firstV []) = .tuple #[.agg #[.int .i64 0, .int .i32 0], .int .i64 0, .bool false] := rfl
    rw [e]
    clear e h4 h5 h6 h7 hrow
    go_enter Tryd.func24, Tryd.ntmps24
    go_wp2
    all_goals (refine bodyPost_ret (v := .tuple #[.agg #[.int .i64 0, .int .i32 0], .int .i64 0, .bool false]) (by simp [results, Tryd.results24, go_sem]) rfl ⟨rfl, by (repeat with_reducible first | exact Only.refl _ _ | refine Only.alloc ?_ _ | refine Only.setNew ?_ (by simp) _)⟩)
  | cons o t =>
    have hao := h4 (by simp)
    subst hao
    have c0 := h6 0 (.int .u8 o) (by simp [U8s])
    rw [Nat.add_zero] at c0
    have hblt := World.block_lt_of_cell? w _ c0
    simp only at hblt
    have ho8 := h7 o (by simp)
    obtain ⟨n, hn⟩ : ∃ n, (o :: t).length = n := ⟨_, rfl⟩
    rw [hn] at h2 hl hrow ⊢
    have hn1 : 1 ≤ n := by rw [← hn]; simp
    have hn0 : ((n : Int) == 0) = false := by rw [beq_eq_false_iff_ne]; omega
    have hrest := hrow.rest 1 hn1
    simp only [List.drop_succ_cons, List.drop_zero] at hrest
    unfold maxLen at h3
    clear h4 h5 h6 h7 hrow hn
    have cH := fun w => has_any (o : Int) w
    obtain ⟨h, hh⟩ : ∃ h, hasK (o : Int) = h := ⟨_, rfl⟩
    rw [hh] at cH
    by_cases ho34 : 34 ≤ o
    · have e : firstRes (firstV (o :: t)) = .tuple #[.agg #[.int .i64 0, .int .i32 0], .int .i64 0, .bool false] := by rw [firstV_cons, if_pos ho34]; rfl
      rw [e]
      have hi34 : (34 : Int) ≤ (o : Int) := by omega
      clear e hh cH hrest
      go_enter Tryd.func24, Tryd.ntmps24
      go_wp2
      all_goals (refine bodyPost_ret (v := .tuple #[.agg #[.int .i64 0, .int .i32 0], .int .i64 0, .bool false]) (by simp [results, Tryd.results24, go_sem]) rfl ⟨rfl, by (repeat with_reducible first | exact Only.refl _ _ | refine Only.alloc ?_ _ | refine Only.setNew ?_ (by simp) _)⟩)
    · have hi34 : (o : Int) < 34 := by omega
      cases h
      · have e : firstRes (firstV (o :: t)) = .tuple #[.agg #[.int .i64 o, .int .i32 0], .int .i64 1, .bool true] := by rw [firstV_cons, if_neg ho34, hh]; rfl
        rw [e]
        clear e hh hrest
        go_enter Tryd.func24, Tryd.ntmps24
        go_wp2_with (go_at_call 16; refine (cH _).mono ?_; rintro e w1 ⟨rfl, rfl⟩)
        all_goals (refine bodyPost_ret (v := .tuple #[.agg #[.int .i64 o, .int .i32 0], .int .i64 1, .bool true]) (by simp [results, Tryd.results24, go_sem]) rfl ⟨rfl, by (repeat with_reducible first | exact Only.refl _ _ | refine Only.alloc ?_ _ | refine Only.setNew ?_ (by simp) _)⟩)
      · obtain ⟨u, m, ok, hr⟩ : ∃ u m ok, readV 0 0 t = (u, m, ok) := ⟨_, _, _, rfl⟩
        have hm10 : m ≤ 10 := by
          have := (readV_bound t 0 0 (by decide) (by decide) (by omega)).2
          rw [hr] at this; exact this
        have cR := fun (w' : World) (ho : Only Nil w w') => readInt_val _ t w' (hrest.kept ho) u m ok hr
        have e := firstV_cons o t
        rw [if_neg ho34, hh, if_pos rfl, hr] at e
        simp only at e
        obtain ⟨z, hz⟩ : ∃ z, zag u = z := ⟨_, rfl⟩
        rw [hz] at e cR
        by_cases hg : ok = true ∧ -2147483648 ≤ z ∧ z ≤ 2147483647
        · rw [if_pos hg] at e
          rw [e]
          obtain ⟨rfl, hz1, hz2⟩ := hg
          have hzw : IntKind.i32.wrap z = z := by rw [IntKind.wrap_i32]; omega
          have ev : firstRes (some (⟨(o : Int), z⟩, 1 + m)) = .tuple #[.agg #[.int .i64 o, .int .i32 z], .int .i64 (1 + m : Int), .bool true] := by simp [firstRes]
          rw [ev]
          clear e hh hrest ev hr hz
          go_enter Tryd.func24, Tryd.ntmps24
          go_wp2_with (first | (go_at_call 16; refine (cH _).mono ?_; rintro e w1 ⟨rfl, rfl⟩) | (go_at_call 32; refine (cR _ (by (repeat with_reducible first | exact Only.refl _ _ | refine Only.alloc ?_ _ | refine Only.setNew ?_ (by simp) _))).mono ?_; rintro e w1 ⟨rfl, rfl⟩))
          all_goals (refine bodyPost_ret (v := .tuple #[.agg #[.int .i64 o, .int .i32 z], .int .i64 (1 + m : Int), .bool true]) (by simp [results, Tryd.results24, go_sem]) rfl ⟨rfl, by (repeat with_reducible first | exact Only.refl _ _ | refine Only.alloc ?_ _ | refine Only.setNew ?_ (by simp) _)⟩)
        · rw [if_neg hg] at e
          rw [e]
          have ev : firstRes none = .tuple #[.agg #[.int .i64 0, .int .i32 0], .int .i64 0, .bool false] := rfl
          rw [ev]
          clear e hh hrest ev hr hz
          cases ok
          · clear hg
            go_enter Tryd.func24, Tryd.ntmps24
            go_wp2_with (first | (go_at_call 16; refine (cH _).mono ?_; rintro e w1 ⟨rfl, rfl⟩) | (go_at_call 32; refine (cR _ (by (repeat with_reducible first | exact Only.refl _ _ | refine Only.alloc ?_ _ | refine Only.setNew ?_ (by simp) _))).mono ?_; rintro e w1 ⟨rfl, rfl⟩))
            all_goals (refine bodyPost_ret (v := .tuple #[.agg #[.int .i64 0, .int .i32 0], .int .i64 0, .bool false]) (by simp [results, Tryd.results24, go_sem]) rfl ⟨rfl, by (repeat with_reducible first | exact Only.refl _ _ | refine Only.alloc ?_ _ | refine Only.setNew ?_ (by simp) _)⟩)
          · have hg' : z < -2147483648 ∨ 2147483647 < z := by
              by_cases h1 : -2147483648 ≤ z
              · right; exact Int.not_le.1 (fun h2 => hg ⟨rfl, h1, h2⟩)
              · left; omega
            clear hg
            rcases hg' with hg' | hg'
            · go_enter Tryd.func24, Tryd.ntmps24
              go_wp2_with (first | (go_at_call 16; refine (cH _).mono ?_; rintro e w1 ⟨rfl, rfl⟩) | (go_at_call 32; refine (cR _ (by (repeat with_reducible first | exact Only.refl _ _ | refine Only.alloc ?_ _ | refine Only.setNew ?_ (by simp) _))).mono ?_; rintro e w1 ⟨rfl, rfl⟩))
              all_goals (refine bodyPost_ret (v := .tuple #[.agg #[.int .i64 0, .int .i32 0], .int .i64 0, .bool false]) (by simp [results, Tryd.results24, go_sem]) rfl ⟨rfl, by (repeat with_reducible first | exact Only.refl _ _ | refine Only.alloc ?_ _ | refine Only.setNew ?_ (by simp) _)⟩)
            · have hg'' : -2147483648 ≤ z := by omega
              go_enter Tryd.func24, Tryd.ntmps24
              go_wp2_with (first | (go_at_call 16; refine (cH _).mono ?_; rintro e w1 ⟨rfl, rfl⟩) | (go_at_call 32; refine (cR _ (by (repeat with_reducible first | exact Only.refl _ _ | refine Only.alloc ?_ _ | refine Only.setNew ?_ (by simp) _))).mono ?_; rintro e w1 ⟨rfl, rfl⟩))
              all_goals (refine bodyPost_ret (v := .tuple #[.agg #[.int .i64 0, .int .i32 0], .int .i64 0, .bool false]) (by simp [results, Tryd.results24, go_sem]) rfl ⟨rfl, by (repeat with_reducible first | exact Only.refl _ _ | refine Only.alloc ?_ _ | refine Only.setNew ?_ (by simp) _)⟩)
end Go.Proofs.YtipdfgkemghmoaaDoor
