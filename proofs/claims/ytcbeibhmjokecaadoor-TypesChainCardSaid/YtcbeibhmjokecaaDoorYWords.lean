/- How many words a type has: both sides tell the same. -/
import Derived.Test.YtcbeibhmjokecaaDoorYWrdQ
set_option linter.unusedSimpArgs false
set_option linter.unusedVariables false
namespace Go.Proofs.YtcbeibhmjokecaaDoor
open Go.RowKit M

/-- A type's words. -/
def wordsM (R : Recs) (n : Nat) (t : Ty) : Option Nat := tyW (recV R n) t
theorem Only.dropNew {w w1 w' : World} {kb : Nat} (h1 : Only Nil w w1) (h : Only (M.One kb) w1 w') (hk : w.heap.size ≤ kb) : Only Nil w w' :=
  h1.trans h (fun k hk2 h => by have : k = kb := h; omega)
set_option maxRecDepth 20000 in
set_option maxHeartbeats 3200000 in
theorem wordsP_any {U V : Nat → Prop} {w0 : World} {mv : Value} {n : Nat} {R : Recs} {fv : ByteArray → Value} (hM : RMap U w0 mv n R fv) (hF : ∀ s r, R s = some r → r.fields.length ≤ 1000) (hn9 : n ≤ 20000) {va : Value} {la : List Ty} (ha : TyS V w0 va la) (f N : Int) (s : ByteArray) (hs : s.size ≤ maxLen) (w : World) (hw : Only Nil w0 w) :
    Calls Tryd.prog 18 #[.agg #[.int .i64 f, .int .i64 N, .string s, va], mv] w fun e w' => e = .returned (.tuple #[.int .i64 ((wordsM R n (Ty.mk f N s la)).getD 0 : Nat), .bool (wordsM R n (Ty.mk f N s la)).isSome]) ∧ Only Nil w w' := by
  obtain ⟨mo, rfl⟩ : ∃ mo, mv = .map mo := by
    rcases hM.map with ⟨rfl, _⟩ | ⟨b, _, rfl, _⟩
    · exact ⟨none, rfl⟩
    · exact ⟨some b, rfl⟩
  obtain ⟨ks, hkl, hks⟩ := hM.keys
  have hsz := hw.size
  have hMw : RMap (LtB w.heap.size) w (.map mo) n R fv := (hM.lts.go hw).mono (fun k hk => by have := hk.2; unfold LtB; omega)
  have haw : TyS (LtB w.heap.size) w va la := (ha.lts.go hw).mono (fun k hk => by have := hk.2; unfold LtB; omega)
  obtain ⟨ao, cap, rfl⟩ := ha.slice
  have HEQ := Lib.hid (wordsP_eq hks (Ty.mk f N s la))
  rw [hkl] at HEQ
  obtain ⟨X, hX⟩ : ∃ x, tyW (recV R n) (Ty.mk f N s la) = x := ⟨_, rfl⟩
  have e9 : wordsM R n (Ty.mk f N s la) = X := hX
  rw [e9]
  rw [hX] at HEQ
  clear hX e9
  have mkm : ∀ w, (Instr.makeMap 67 none).run Tryd.prog w = .ok (.map (some w.heap.size)) (w.alloc (.map #[] 0)) := fun w => by
    simp [Instr.makeMap, run_underlying Tryd.underlying67, Result.andThen]
  obtain ⟨na, hna⟩ : ∃ x, la.length = x := ⟨_, rfl⟩
  rw [hna] at haw ⊢
  have hREC := recC_any (cb := w.heap.size + 2) hMw hF hks (by rw [hkl]; exact hn9) (Nat.le_succ w.heap.size) n
  have C := fun (w1 : World) (h : Only Nil w w1) (hC : CAt w1 (w.heap.size + 2) (w.heap.size + 1) (.map mo) (fun _ => none) 0) => wordsT_any hREC (Nat.le_succ w.heap.size) haw f N s (fun _ => none) w1 0 hs (Only.nilOf h) hC (by have := avail_len ks (fun _ => none); omega) (by unfold Fits9; have := avail_len ks (fun _ => none); omega)
  have HC := Lib.hid C
  clear C hREC haw hMw hsz hna hM hF ha hks hkl hs hw hn9
  go_enter Tryd.func18, Tryd.ntmps18
  go_wp2_with fail
  have h1 : Only Nil w (((w.alloc (.cells #[.int .i64 f, .int .i64 N, .string s, .slice ao na cap] 25)).alloc (.map #[] 0)).alloc (.cells #[.map mo, .map (some (w.heap.size + 1))] 69)) := (((Only.refl Nil w).alloc _).alloc _).alloc _
  have hm0 := SMap.made (w.alloc (.cells #[.int .i64 f, .int .i64 N, .string s, .slice ao na cap] 25))
  have hm1 := hm0.kept (S := Nil) (((Only.refl Nil _).alloc (.cells #[.map mo, .map (some (w.heap.size + 1))] 69))) (fun h => h)
  have hB1 := Blk.new ((w.alloc (.cells #[.int .i64 f, .int .i64 N, .string s, .slice ao na cap] 25)).alloc (.map #[] 0)) #[.map mo, .map (some (w.heap.size + 1))] 69
  rw [show (w.alloc (.cells #[.int .i64 f, .int .i64 N, .string s, .slice ao na cap] 25)).heap.size = w.heap.size + 1 by simp] at hm1
  rw [show ((w.alloc (.cells #[.int .i64 f, .int .i64 N, .string s, .slice ao na cap] 25)).alloc (.map #[] 0)).heap.size = w.heap.size + 2 by simp] at hB1
  obtain ⟨w1, hw1⟩ : ∃ z, ((w.alloc (.cells #[.int .i64 f, .int .i64 N, .string s, .slice ao na cap] 25)).alloc (.map #[] 0)).alloc (.cells #[.map mo, .map (some (w.heap.size + 1))] 69) = z := ⟨_, rfl⟩
  rw [hw1] at h1 hm1 hB1 ⊢
  have hC : CAt w1 (w.heap.size + 2) (w.heap.size + 1) (.map mo) (fun _ => none) 0 := ⟨hB1, hm1, by omega⟩
  refine (HC.out w1 h1 hC).mono ?_
  rintro e w2 ⟨ho2, hno, hye⟩
  have HO2 := Lib.hid (Only.dropNew h1 ho2 (Nat.le_succ _))
  have heq := HEQ.out
  obtain ⟨Y, hY⟩ : ∃ y, tyP (recP R n) (Ty.mk f N s la) (fun _ => none) = y := ⟨_, rfl⟩
  rw [hY] at heq hno hye
  subst heq
  clear HEQ hm0 hm1 hB1 hw1 hC h1 ho2 hY
  cases Y with
  | none =>
    have he := hno rfl
    subst he
    clear hno hye
    go_wp2_with fail
    go_ret2
    exact ⟨rfl, HO2.out⟩
  | some y =>
    obtain ⟨x, K'⟩ := y
    have he := (hye x K' rfl).1
    subst he
    clear hno hye
    go_wp2_with fail
    go_ret2
    exact ⟨rfl, HO2.out⟩
set_option maxRecDepth 20000 in
set_option maxHeartbeats 3200000 in
theorem wordsR_any {U V : Nat → Prop} {w0 : World} {mv : Value} {n : Nat} {R : Recs} {fv : ByteArray → Value} (hM : RMap U w0 mv n R fv) (hF : ∀ s r, R s = some r → r.fields.length ≤ 1000) (hn9 : n ≤ 20000) {va : Value} {la : List Ty} (ha : TyS V w0 va la) (f N : Int) (s : ByteArray) (hs : s.size ≤ maxLen) (w : World) (hw : Only Nil w0 w) :
    Calls Tryd.prog 19 #[.agg #[.int .i64 f, .int .i64 N, .string s, va], mv] w (WrdPost w (wordsM R n (Ty.mk f N s la))) := by
  obtain ⟨ks, hkl, hks⟩ := hM.keys
  have heq := recW_eq hks
  rw [hkl] at heq
  have len := fun (o : Obj) ty => (hM.go (hw.alloc o)).len ty
  have C := wrdR_any hM hF hn9 n hn9 w hw (ha.go hw).any f N s hs
  rw [heq] at C
  have HC := Lib.hid C
  obtain ⟨ao, cap, rfl⟩ := ha.slice
  obtain ⟨na, hna⟩ : ∃ x, la.length = x := ⟨_, rfl⟩
  rw [hna] at HC ⊢
  clear C heq hna hM hF ha hks hkl hs hw hn9
  go_enter Tryd.func19, Tryd.ntmps19
  go_wp2_with fail
  refine (HC.out _ ((Only.refl Nil w).alloc _)).mono ?_
  rintro e w2 ⟨m, rfl, hm, ho2⟩
  have HO2 := Lib.hid (Nil.trans ((Only.refl Nil w).alloc _) ho2)
  have HM := Lib.hid hm
  have e9 : wordsM R n (Ty.mk f N s la) = tyW (recV R n) (Ty.mk f N s la) := rfl
  rw [e9]
  obtain ⟨b, hb⟩ : ∃ b, (tyW (recV R n) (Ty.mk f N s la)).isSome = b := ⟨_, rfl⟩
  have HB := Lib.hid hb
  rw [hb]
  clear HC ho2 hm hb e9
  go_wp2_with fail
  go_ret2
  exact ⟨m, by rw [← HB.out]; rfl, HM.out, HO2.out⟩
end Go.Proofs.YtcbeibhmjokecaaDoor
