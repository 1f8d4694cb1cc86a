/- How many words a type has: the program's counter, of types. -/
import Derived.Test.YtcbeibhmjokecaaDoorYWrdM
import Derived.Test.YtcbeibhmjokecaaDoorYWrdR
import Derived.Test.YtcbeibhmjokecaaDoorYRight
set_option linter.unusedSimpArgs false
set_option linter.unusedVariables false
namespace Go.Proofs.YtcbeibhmjokecaaDoor
open Go.RowKit M

/-- What is known, as the map's values. -/
def knV : Option Nat → Value
  | none => .int .i64 (-1)
  | some x => .int .i64 (x : Int)
def kvs (K : Kn) : ByteArray → Option Value := fun s => (K s).map knV
theorem kvs_upd (K : Kn) (s : ByteArray) (v : Option Nat) : upS (kvs K) s (knV v) = kvs (updK K s v) := by
  funext t
  unfold upS kvs updK
  split <;> rfl
theorem zeroI (w : World) : (zeroValue 3).run Tryd.prog w = .ok (.int .i64 0) w := by kernel_rfl
/-- Blocks from B on. -/
def GeB (B : Nat) : Nat → Prop := fun k => B ≤ k
def LtB (B : Nat) : Nat → Prop := fun k => k < B
/-- The counter in memory. -/
structure CAt (w : World) (cb kb : Nat) (mv : Value) (K : Kn) (m : Nat) : Prop where
  blk : Blk w cb #[mv, .map (some kb)] 69
  map : SMap w kb m (kvs K)
  ne : cb ≠ kb
theorem CAt.kept {S : Nat → Prop} {w w' : World} {cb kb : Nat} {mv : Value} {K : Kn} {m : Nat} (h : CAt w cb kb mv K m) (ho : Only S w w') (h1 : ¬ S cb) (h2 : ¬ S kb) : CAt w' cb kb mv K m :=
  ⟨h.blk.kept ho h1, h.map.kept ho h2, h.ne⟩
theorem CAt.go {w w' : World} {cb kb : Nat} {mv : Value} {K : Kn} {m : Nat} (h : CAt w cb kb mv K m) (ho : Only Nil w w') : CAt w' cb kb mv K m := h.kept ho (fun h => h) (fun h => h)
/-- What counting leaves. -/
def CPost (w : World) (cb kb : Nat) (mv : Value) (ks : List ByteArray) (r : Option (Nat × Kn)) (e : Ending) (w' : World) : Prop :=
  Only (M.One kb) w w' ∧ (r = none → e = .returned (.tuple #[.int .i64 0, .bool false])) ∧ ∀ x K', r = some (x, K') → e = .returned (.tuple #[.int .i64 (x : Int), .bool true]) ∧ ∃ m', CAt w' cb kb mv K' m' ∧ Fits9 ks K' m'
theorem one_ge {B kb : Nat} (h : B ≤ kb) : ∀ k, M.One kb k → GeB B k := fun k hk => by rw [show k = kb from hk]; exact h
theorem Only.nilOf {S : Nat → Prop} {w w' : World} (h : Only Nil w w') : Only S w w' := h.mono (fun _ h => h.elim)
/-- The call of record tells what the counting tells. -/
def RecOk (B : Nat) (w0 : World) (cb kb : Nat) (mv : Value) (R : Recs) (ks : List ByteArray) (f : Nat) : Prop :=
  ∀ (K : Kn) (s : ByteArray) (w : World) (m : Nat), s.size ≤ maxLen → Only (GeB B) w0 w → CAt w cb kb mv K m → avail ks K ≤ f → Fits9 ks K m →
    Calls Tryd.prog 47 #[.pointer (some ⟨cb, 0, none⟩), .string s] w (CPost w cb kb mv ks (recP R f K s))
def fewV (v : Int) (ok : Bool) : Value := if ok = true ∧ v ≤ 16384 then .tuple #[.int .i64 v, .bool true] else .tuple #[.int .i64 0, .bool false]
theorem fewP_any (v : Int) (ok : Bool) (w : World) : Calls Tryd.prog 46 #[.int .i64 v, .bool ok] w fun e w' => e = .returned (fewV v ok) ∧ w' = w := by
  cases ok with
  | false =>
    have e1 : fewV v false = .tuple #[.int .i64 0, .bool false] := by unfold fewV; rw [if_neg (by simp)]
    rw [e1]
    clear e1
    go_enter Tryd.func46, Tryd.ntmps46
    go_wp2_with fail
    go_ret2
    exact ⟨rfl, rfl⟩
  | true =>
    by_cases h : v ≤ 16384
    · have e1 : fewV v true = .tuple #[.int .i64 v, .bool true] := by unfold fewV; rw [if_pos ⟨rfl, h⟩]
      rw [e1]
      clear e1
      go_enter Tryd.func46, Tryd.ntmps46
      go_wp2_with fail
      go_ret2
      exact ⟨rfl, rfl⟩
    · have e1 : fewV v true = .tuple #[.int .i64 0, .bool false] := by unfold fewV; rw [if_neg (fun h2 => h h2.2)]
      rw [e1]
      clear e1
      go_enter Tryd.func46, Tryd.ntmps46
      go_wp2_with fail
      go_ret2
      exact ⟨rfl, rfl⟩
set_option maxRecDepth 20000 in
set_option maxHeartbeats 3200000 in
theorem wordsT_any {B : Nat} {w0 : World} {cb kb : Nat} {mv : Value} {R : Recs} {ks : List ByteArray} {f : Nat} (H : RecOk B w0 cb kb mv R ks f) (hkb : B ≤ kb) {va : Value} {la : List Ty} (ha : TyS (LtB B) w0 va la) :
    ∀ (g N : Int) (s : ByteArray) (K : Kn) (w : World) (m : Nat), s.size ≤ maxLen → Only (GeB B) w0 w → CAt w cb kb mv K m → avail ks K ≤ f → Fits9 ks K m →
      Calls Tryd.prog 33 #[.pointer (some ⟨cb, 0, none⟩), .agg #[.int .i64 g, .int .i64 N, .string s, va]] w (CPost w cb kb mv ks (tyP (recP R f) (Ty.mk g N s la) K)) := by
  have HRec := Lib.hid H
  clear H
  induction ha with
  | mk la ao cap off b ovs h0 h1 hb hn hs hc hr ih =>
    intro g N s K w m hsz hw hC hav hfit
    have ha : TyS (LtB B) w0 (.slice ao la.length cap) la := TyS.mk la ao cap off b ovs h0 h1 hb hn hs hc hr
    have haw := ha.kept hw (fun k hk hg => by unfold LtB at hk; unfold GeB at hg; omega)
    have HRT := Lib.hid (fun w' (h : Only Nil w w') => rightP_any haw g N s w' h)
    obtain ⟨na, hna⟩ : ∃ x, la.length = x := ⟨_, rfl⟩
    rw [hna] at HRT ⊢
    obtain ⟨X, hX⟩ : ∃ x, tyP (recP R f) (Ty.mk g N s la) K = x := ⟨_, rfl⟩
    rw [hX]
    unfold tyP at hX
    obtain ⟨rb, hrb⟩ : ∃ r, rightB (Ty.mk g N s la) = r := ⟨_, rfl⟩
    rw [hrb] at HRT hX
    have HW := Lib.hid hw
    have HC := Lib.hid hC
    have HAV := Lib.hid hav
    have HFIT := Lib.hid hfit
    have HSZ := Lib.hid hsz
    have HKB := Lib.hid hkb
    have hlt1 := hC.blk.lt
    have hlt2 := hC.map.lt
    cases rb with
    | false =>
      rw [if_neg (by decide)] at hX
      subst hX
      clear hsz hw hC hav hfit ha haw h0 h1 hb hn hs hc hr ih hna hrb hkb
      go_enter Tryd.func33, Tryd.ntmps33
      go_wp2_with fail
      refine (HRT.out _ ((Only.refl Nil w).alloc _)).mono ?_
      rintro e w3 ⟨rfl, ho3⟩
      have HO3 : Hid (Only Nil w w3) := Lib.hid (Nil.trans ((Only.refl Nil w).alloc _) ho3)
      clear ho3 HRT
      go_wp2_with fail
      go_ret2
      exact ⟨Only.nilOf HO3.out, fun _ => rfl, fun x K' h => by cases h⟩
    | true =>
      rw [if_pos rfl] at hX
      by_cases g7 : g = 7
      · subst g7
        rw [if_pos rfl] at hX
        obtain ⟨⟨t, rfl⟩, m1, m2⟩ := one_of_right hrb
        obtain ⟨N, rfl⟩ : ∃ N' : Nat, N = (N' : Int) := ⟨N.toNat, by omega⟩
        have e1 : na = 1 := hna.symm
        subst e1
        have e2 := h0 (by show 0 < 1; decide)
        subst e2
        have hsz2 := hs t List.mem_cons_self
        obtain ⟨Y, hY⟩ : ∃ x, tyP (recP R f) t K = x := ⟨_, rfl⟩
        have hYle : ∀ x K', Y = some (x, K') → x ≤ 16384 := fun x K' e => tyP_le (hY.trans e)
        have HIH := Lib.hid (fun w' (h : Only Nil w w') => by
          have := ih 0 t rfl t.form t.n t.name K w' m hsz2 (hw.trans h (fun _ _ h => h.elim)) (hC.go h) hav hfit
          rw [Ty.eta, hY] at this
          exact this)
        rw [show oneP (recP R f) [t] K = tyP (recP R f) t K by unfold oneP; rfl, hY, Int.toNat_natCast] at hX
        have HX := Lib.hid hX
        have HYLE := Lib.hid hYle
        have M1 := Lib.hid m1
        have M2 := Lib.hid m2
        have HCC := Lib.hid ((hc 0 t rfl).kept hw (fun _ hg => by have := hb (by show 0 < 1; decide); unfold LtB at this; unfold GeB at hg; omega))
        clear hsz hw hC hav hfit ha haw h0 h1 hb hn hs hc hr ih hna hrb hX hYle m1 m2 hY hsz2 hkb
        go_enter Tryd.func33, Tryd.ntmps33
        go_wp2_with fail
        refine (HRT.out _ ((Only.refl Nil w).alloc _)).mono ?_
        rintro e w3 ⟨rfl, ho3⟩
        have h3 : Only Nil w w3 := Nil.trans ((Only.refl Nil w).alloc _) ho3
        have hB := (Blk.new w #[.int .i64 7, .int .i64 (N : Int), .string s, .slice (some ⟨b, off, none⟩) 1 cap] 25).kept ho3 (fun h => h)
        have HB := Lib.hid hB
        have H3 := Lib.hid h3
        have q0 : w3.cell? ⟨w.heap.size, 0, none⟩ = some (.int .i64 7) := hB.cell 0
        have q1 : w3.cell? ⟨w.heap.size, 1, none⟩ = some (.int .i64 (N : Int)) := hB.cell 1
        have q3 : w3.cell? ⟨w.heap.size, 3, none⟩ = some (.slice (some ⟨b, off, none⟩) 1 cap) := hB.cell 3
        have a1 := HCC.out.kept h3 (fun _ h => h)
        unfold tyCells at a1
        rw [Nat.zero_mul, Nat.add_zero] at a1
        have b0 := a1.get0
        have b1 := a1.get 1 rfl
        have b2 := a1.get 2 rfl
        have b3 := a1.get 3 rfl
        clear ho3 h3 hB a1 HRT
        go_wp2_with fail
        refine (HIH.out _ H3.out).mono ?_
        rintro e w4 ⟨ho4, hno, hye⟩
        have H4 := Lib.hid ho4
        have H04 : Hid (Only (M.One kb) w w4) := Lib.hid ((Only.nilOf H3.out).trans ho4 (fun _ _ h => h))
        have q1 : w4.cell? ⟨w.heap.size, 1, none⟩ = some (.int .i64 (N : Int)) := (HB.out.kept ho4 (fun h => by rw [show w.heap.size = kb from h] at hlt2; omega)).cell 1
        clear ho4 HIH b0 b1 b2 b3 q0 q3
        cases Y with
        | none =>
          have he := hno rfl
          subst he
          have hx := HX.out
          have hx : none = X := hx
          clear HX hno hye
          subst hx
          have wm : IntKind.i64.wrap ((N : Int) * 0) = 0 := by rw [Int.mul_zero]; decide
          go_wp2_with fail
          refine (fewP_any _ _ _).mono ?_
          rintro e w5 ⟨rfl, rfl⟩
          have ef : fewV 0 false = .tuple #[.int .i64 0, .bool false] := rfl
          rw [ef]
          clear ef wm
          go_wp2_with fail
          go_ret2
          exact ⟨H04.out, fun _ => rfl, fun x K' h => by cases h⟩
        | some y =>
          obtain ⟨x, K2⟩ := y
          obtain ⟨he, m', hC2, hf2⟩ := hye x K2 rfl
          subst he
          have HC2 := Lib.hid hC2
          have HF2 := Lib.hid hf2
          have hxle := HYLE.out x K2 rfl
          have hpp : N * x ≤ 16777216 := by
            have h1 : N ≤ 1024 := by have := M2.out; omega
            have := Nat.mul_le_mul h1 hxle
            omega
          obtain ⟨p, hp⟩ : ∃ p, N * x = p := ⟨_, rfl⟩
          have wm : IntKind.i64.wrap ((N : Int) * (x : Int)) = (p : Int) := by
            rw [← Int.natCast_mul, hp, IntKind.wrap]
            rw [hp] at hpp
            simp [IntKind.bits, IntKind.signed]; omega
          have hx := HX.out
          have hx : (limW (N * x)).map (fun z => (z, K2)) = X := hx
          rw [hp] at hx
          unfold limW at hx
          clear HX hno hye hpp hp HYLE hC2 hf2
          go_wp2_with fail
          refine (fewP_any _ _ _).mono ?_
          rintro e w5 ⟨rfl, rfl⟩
          clear wm
          by_cases hp4 : p ≤ 16384
          · rw [if_pos hp4] at hx
            subst hx
            have ef : fewV (p : Int) true = .tuple #[.int .i64 (p : Int), .bool true] := by unfold fewV; rw [if_pos ⟨rfl, by omega⟩]
            rw [ef]
            clear ef hp4
            go_wp2_with fail
            go_ret2
            exact ⟨H04.out, (fun h => by cases h), fun x' K' h => by simp only [Option.map_some, Option.some.injEq, Prod.mk.injEq] at h; obtain ⟨rfl, rfl⟩ := h; exact ⟨rfl, m', HC2.out, HF2.out⟩⟩
          · rw [if_neg hp4] at hx
            subst hx
            have ef : fewV (p : Int) true = .tuple #[.int .i64 0, .bool false] := by unfold fewV; rw [if_neg (fun h => by have := h.2; omega)]
            rw [ef]
            clear ef hp4
            go_wp2_with fail
            go_ret2
            exact ⟨H04.out, fun _ => rfl, fun x K' h => by cases h⟩
      · rw [if_neg g7] at hX
        have q7 : (g == 7) = false := by simpa using g7
        by_cases g8 : g = 8
        · subst g8
          rw [if_pos rfl] at hX
          have HREC := Lib.hid (fun w' (h : Only Nil w w') => by
            have := HRec.out K s w' m hsz (hw.trans h (fun _ _ h => h.elim)) (hC.go h) hav hfit
            rw [hX] at this
            exact this)
          clear hsz hw hC hav hfit ha haw h0 h1 hb hn hs hc hr ih hna hrb hkb hX g7
          go_enter Tryd.func33, Tryd.ntmps33
          go_wp2_with fail
          refine (HRT.out _ ((Only.refl Nil w).alloc _)).mono ?_
          rintro e w3 ⟨rfl, ho3⟩
          have h3 : Only Nil w w3 := Nil.trans ((Only.refl Nil w).alloc _) ho3
          have hB := (Blk.new w #[.int .i64 8, .int .i64 N, .string s, .slice ao na cap] 25).kept ho3 (fun h => h)
          have q0 : w3.cell? ⟨w.heap.size, 0, none⟩ = some (.int .i64 8) := hB.cell 0
          have q2 : w3.cell? ⟨w.heap.size, 2, none⟩ = some (.string s) := hB.cell 2
          have H3 := Lib.hid h3
          clear ho3 HRT hB h3
          go_wp2_with fail
          refine (HREC.out _ H3.out).mono ?_
          rintro e w4 ⟨ho4, hno, hye⟩
          have H04 : Hid (Only (M.One kb) w w4) := Lib.hid ((Only.nilOf H3.out).trans ho4 (fun _ _ h => h))
          clear ho4 HREC q0 q2
          cases X with
          | none =>
            have he := hno rfl
            subst he
            clear hno hye
            go_wp2_with fail
            go_ret2
            exact ⟨H04.out, fun _ => rfl, fun x K' h => by cases h⟩
          | some y =>
            obtain ⟨x, K2⟩ := y
            obtain ⟨he, m', hC2, hf2⟩ := hye x K2 rfl
            subst he
            have HC2 := Lib.hid hC2
            have HF2 := Lib.hid hf2
            clear hno hye hC2 hf2
            go_wp2_with fail
            go_ret2
            exact ⟨H04.out, (fun h => by cases h), fun x' K' h => by simp only [Option.some.injEq, Prod.mk.injEq] at h; obtain ⟨rfl, rfl⟩ := h; exact ⟨rfl, m', HC2.out, HF2.out⟩⟩
        · rw [if_neg g8] at hX
          have q8 : (g == 8) = false := by simpa using g8
          subst hX
          clear hsz hw hC hav hfit ha haw h0 h1 hb hn hs hc hr ih hna hrb hkb g7 g8
          go_enter Tryd.func33, Tryd.ntmps33
          go_wp2_with fail
          refine (HRT.out _ ((Only.refl Nil w).alloc _)).mono ?_
          rintro e w3 ⟨rfl, ho3⟩
          have h3 : Only Nil w w3 := Nil.trans ((Only.refl Nil w).alloc _) ho3
          have hB := (Blk.new w #[.int .i64 g, .int .i64 N, .string s, .slice ao na cap] 25).kept ho3 (fun h => h)
          have q0 : w3.cell? ⟨w.heap.size, 0, none⟩ = some (.int .i64 g) := hB.cell 0
          have H3 := Lib.hid h3
          clear ho3 HRT hB h3
          go_wp2_with fail
          go_ret2
          exact ⟨Only.nilOf H3.out, (fun h => by cases h), fun x' K' h => by simp only [Option.some.injEq, Prod.mk.injEq] at h; obtain ⟨rfl, rfl⟩ := h; exact ⟨rfl, m, HC.out.go H3.out, HFIT.out⟩⟩
end Go.Proofs.YtcbeibhmjokecaaDoor
